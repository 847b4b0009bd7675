"""Whether what a call is handed is within the ranges and of the forms that are told, and is there."""

from monthsclosed.dates import LAST_DAY, LAST_MONTH
from monthsclosed.refusals import NOT_THERE, WRONG_FORM

GREATEST_AMOUNT = 1000000000000000
LONGEST_CODE = 8


def is_within(value, least, greatest):
    return least <= value and value <= greatest


def is_day(value):
    return is_within(value, 1, LAST_DAY)


def is_month(value):
    return is_within(value, 0, LAST_MONTH)


def is_amount(value, least):
    return is_within(value, least, GREATEST_AMOUNT)


def is_code_byte(byte):
    is_letter = is_within(byte, ord("A"), ord("Z"))
    is_digit = is_within(byte, ord("0"), ord("9"))
    return is_letter or is_digit


def is_code(text):
    if not is_within(len(text), 1, LONGEST_CODE):
        return False
    return all([is_code_byte(byte) for byte in text])


def is_code_or_empty(text):
    return len(text) == 0 or is_code(text)


def refusal_of_code(house, code):
    """The refusal of a code that is none or of which there is no account; else 0."""
    if not is_code(code):
        return WRONG_FORM
    if code not in house.accounts:
        return NOT_THERE
    return 0
