"""The calls on entries: each gives back what it answers, as a list."""

from monthsclosed.checks import is_amount, is_code, is_month, is_within, refusal_of_code
from monthsclosed.dates import month_of
from monthsclosed.house import CHARGE, CREDIT, OVERHEAD, Entry
from monthsclosed.refusals import MORE_THAN_LEFT, NO_ROOM, NOT_THERE, OUT_OF_RANGE, WRONG_FORM, WRONG_STATE
from monthsclosed.refusals import WRONG_TIME
from monthsclosed.rows import with_row, with_rows
from monthsclosed.work import end_of, is_grade_and_time, price_of, refusal_of_units

GREATEST_NUMBER = 500
MOST_TOLD = 100


def is_full(house):
    return len(house.entries) >= house.entry_cap


def is_entry_number(value):
    return is_within(value, 1, GREATEST_NUMBER)


def refusal_of_charge(house, work, code):
    if not is_grade_and_time(work):
        return OUT_OF_RANGE
    if not is_code(code):
        return WRONG_FORM
    refusal = refusal_of_units(work.units)
    if refusal < 0:
        return refusal
    if end_of(work) > house.today:
        return WRONG_TIME
    if code not in house.accounts:
        return NOT_THERE
    if is_full(house):
        return NO_ROOM
    return 0


def answer_charge(house, work, code):
    refusal = refusal_of_charge(house, work, code)
    if refusal < 0:
        return [refusal]
    amount = price_of(house, work)
    # Nothing comes into a closed month: the first that isn't has the number of how many are.
    month = max(month_of(end_of(work)), house.closed_months)
    details = (work.grade, work.day, work.minute, work.minutes) + work.units
    house.entries.append(Entry(CHARGE, code, month, amount, details))
    house.last_day_charged = max(house.last_day_charged, end_of(work))
    return with_row(len(house.entries), [amount, month])


def left_of_charge(house, number):
    """The charge's amount and those of all its credits, added up."""
    left = house.entries[number - 1].amount
    for entry in house.entries:
        if entry.kind == CREDIT and entry.details == (number,):
            left += entry.amount
    return left


def answer_credit(house, number, amount):
    if not (is_entry_number(number) and is_amount(amount, 1)):
        return [OUT_OF_RANGE]
    if number > len(house.entries):
        return [NOT_THERE]
    charge = house.entries[number - 1]
    if charge.kind != CHARGE:
        return [WRONG_STATE]
    left = left_of_charge(house, number)
    if amount > left:
        return [MORE_THAN_LEFT]
    if is_full(house):
        return [NO_ROOM]
    house.entries.append(Entry(CREDIT, charge.code, month_of(house.today), -amount, (number,)))
    return with_row(len(house.entries), [left - amount])


def answer_overhead(house, amount, code):
    if not is_amount(amount, 1):
        return [OUT_OF_RANGE]
    refusal = refusal_of_code(house, code)
    if refusal < 0:
        return [refusal]
    if is_full(house):
        return [NO_ROOM]
    house.entries.append(Entry(OVERHEAD, code, month_of(house.today), amount, ()))
    return [len(house.entries)]


def answer_entry(house, number):
    if not is_entry_number(number):
        return [OUT_OF_RANGE]
    if number > len(house.entries):
        return [NOT_THERE]
    entry = house.entries[number - 1]
    return with_rows(entry.kind, [entry.code, (entry.month, entry.amount), entry.details])


def numbers_of(house, month, code):
    """The numbers of the account's entries of the month."""
    numbers = []
    for place, entry in enumerate(house.entries):
        if entry.month == month and entry.code == code:
            numbers.append(place + 1)
    return numbers


def answer_statement(house, month, start, most, code):
    if not (is_month(month) and is_entry_number(start) and is_within(most, 1, MOST_TOLD)):
        return [OUT_OF_RANGE]
    refusal = refusal_of_code(house, code)
    if refusal < 0:
        return [refusal]
    told = [number for number in numbers_of(house, month, code) if number >= start][:most]
    row = []
    for number in told:
        row.extend([number, house.entries[number - 1].amount])
    return with_row(len(told), row)
