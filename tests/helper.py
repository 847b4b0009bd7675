"""Builds calls as the lists that are handed in, and takes apart what is answered."""

import copy
import unittest

from monthsclosed.accounts import answer_next, answers
from monthsclosed.house import House
from monthsclosed.rows import Reader

LEAST = -(2**63)
GREATEST = 2**63 - 1
LAST_DAY = 365243
MOST = 10**15
GREATEST_RATE = 10**12
MOST_UNITS = 10**9
NO_UNITS = (0, 0, 0, 0)
NO_CODES = (
    "", "ABCDEFGHI", "A" * 60, "a", "z", " ", "A B", "AB\n", "A-1", "\x00", "\xff",
    "/", ":", "@", "[", "/A", "A:", "0@", "[9", "\xc1",
)


def row(text):
    """A row with its size ahead, of a text or of a list of bytes."""
    numbers = list(text.encode("latin-1")) if isinstance(text, str) else list(text)
    return [len(numbers)] + numbers


def begin(day=1, accounts=200, entries=500):
    return [0, day, accounts, entries]


def day(n):
    return [1, n]


def date(n):
    return [2, n]


def dayof(year, month, day_of_month):
    return [3, year, month, day_of_month]


def prime(day_number, start, stop):
    return [4, day_number, start, stop]


def rate(kind, shift, grade, day_number, value):
    return [5, kind, shift, grade, day_number, value]


def rateof(kind, shift, grade, day_number):
    return [6, kind, shift, grade, day_number]


def tier(limit, thousandths):
    return [7, limit, thousandths]


def account(code, parent=""):
    return [8] + row(code) + row(parent)


def move(code, parent=""):
    return [9] + row(code) + row(parent)


def shut(code):
    return [10] + row(code)


def reopen(code):
    return [11] + row(code)


def budget(amount, code):
    return [12, amount] + row(code)


def admit(estimate, code):
    return [13, estimate] + row(code)


def price(grade, day_number, minute, minutes, units=NO_UNITS):
    return [14, grade, day_number, minute, minutes] + row(units)


def charge(grade, day_number, minute, minutes, code, units=NO_UNITS):
    return [15, grade, day_number, minute, minutes] + row(code) + row(units)


def credit(number, amount):
    return [16, number, amount]


def overhead(amount, code):
    return [17, amount] + row(code)


def month():
    return [18]


def spent(month_number, code):
    return [19, month_number] + row(code)


def invoice(month_number, code):
    return [20, month_number] + row(code)


def total(month_number):
    return [21, month_number]


def entry(number):
    return [22, number]


def statement(month_number, start, most, code):
    return [23, month_number, start, most] + row(code)


def children(code=""):
    return [24] + row(code)


def path(code):
    return [25] + row(code)


def split(amount, weights):
    return [26, amount] + row(weights)


def when():
    return [27]


# With this rate ahead, a charge of one unit of kind 2 costs 1.
UNIT_RATE = rate(2, 0, 0, 1, 1000)


def cost(amount, code, day_number=1):
    """A charge of just that amount, where UNIT_RATE is the one rate of kind 2."""
    return charge(1, day_number, 0, 0, code, (amount, 0, 0, 0))


def rows(*texts):
    """Several rows as they are answered, one behind another."""
    return [number for text in texts for number in row(text)]


def chain(codes, parent=""):
    """Calls for accounts each of which stands under the one before it."""
    calls = []
    for code in codes:
        calls.append(account(code, parent))
        parent = code
    return calls


def as_lists(steps):
    """What is answered of each step, a pair of a call and its answer; a number by itself stands for a list of it."""
    return [[answer] if isinstance(answer, int) else answer for call, answer in steps]


def state(value):
    """All that an object holds, as plain values that can be compared."""
    if isinstance(value, dict):
        return {key: state(each) for key, each in value.items()}
    if isinstance(value, (list, tuple)):
        return [state(each) for each in value]
    if hasattr(value, "__dict__"):
        return state(vars(value))
    return copy.copy(value)


def take_apart(answered):
    """One list for each call of what is answered."""
    parts = []
    place = 0
    while place < len(answered):
        size = answered[place]
        parts.append(answered[place + 1:place + 1 + size])
        if len(parts[-1]) != size:
            raise AssertionError("fewer numbers are answered than told")
        place += 1 + size
    return parts


class LineTest(unittest.TestCase):
    def run_line(self, calls):
        """What is answered of each call; the list handed in stays as it is, and a second time is like the first."""
        line = [number for call in calls for number in call]
        kept = list(line)
        answered = answers(line)
        self.assertEqual(line, kept)
        self.assertEqual(answers(line), answered)
        self.assertTrue(all(type(number) is int for number in answered))
        parts = take_apart(answered)
        self.assertEqual(len(parts), len(calls))
        return parts

    def assert_line(self, steps):
        """steps: pairs of a call and what is answered of it (a number, or a list)."""
        self.assertEqual(self.run_line([call for call, answer in steps]), as_lists(steps))

    def house_after(self, calls):
        """An object on which these calls were answered without a refusal."""
        house = House()
        for call in calls:
            answer = answer_next(house, Reader(call))
            self.assertGreaterEqual(answer[0], 0, call)
        return house

    def assert_refused(self, house, call, refusal):
        before = state(house)
        self.assertEqual(answer_next(house, Reader(call)), [refusal], call)
        self.assertEqual(state(house), before, call)

    def assert_answer(self, house, call, answer):
        self.assertEqual(answer_next(house, Reader(call)), answer, call)
