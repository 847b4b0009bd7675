"""The calls on prime hours, rates, tiers and prices: each gives back what it answers, as a list."""

from monthsclosed.checks import is_amount, is_day, is_within
from monthsclosed.rates import rate_in_force
from monthsclosed.refusals import NO_ROOM, OUT_OF_RANGE, WRONG_TIME
from monthsclosed.rows import with_row
from monthsclosed.work import exact_cost_of, is_grade_and_time, price_of, refusal_of_units

MOST_PRIME_HOURS = 20
MOST_RATES = 100
MOST_TIERS = 5
GREATEST_RATE = 1000000000000


def has_room(table, key, most):
    """Whether the key can be set: one that is there is only replaced."""
    return key in table or len(table) < most


def answer_prime(house, day, start, stop):
    if not (is_day(day) and is_within(start, 0, 1440) and is_within(stop, start, 1440)):
        return [OUT_OF_RANGE]
    if day <= house.last_day_charged:
        return [WRONG_TIME]
    if not has_room(house.prime_hours, day, MOST_PRIME_HOURS):
        return [NO_ROOM]
    house.prime_hours[day] = (start, stop)
    return [len(house.prime_hours)]


def is_shift_of(kind, shift):
    if kind == 1:
        return is_within(shift, 1, 3)
    return shift == 0


def is_rate_place(kind, shift, grade, day):
    """Whether there may be a rate for these."""
    if not (is_within(kind, 1, 5) and is_shift_of(kind, shift)):
        return False
    return is_within(grade, 0, 36) and is_day(day)


def answer_rate(house, kind, shift, grade, day, value):
    if not (is_rate_place(kind, shift, grade, day) and is_within(value, 0, GREATEST_RATE)):
        return [OUT_OF_RANGE]
    if day <= house.last_day_charged:
        return [WRONG_TIME]
    key = (kind, shift, grade, day)
    if not has_room(house.rates, key, MOST_RATES):
        return [NO_ROOM]
    house.rates[key] = value
    return [len(house.rates)]


def answer_rateof(house, kind, shift, grade, day):
    if not is_rate_place(kind, shift, grade, day):
        return [OUT_OF_RANGE]
    return [rate_in_force(house, kind, shift, grade, day)]


def answer_tier(house, limit, thousandths):
    if not (is_amount(limit, 0) and is_within(thousandths, 0, 1000)):
        return [OUT_OF_RANGE]
    if not has_room(house.tiers, limit, MOST_TIERS):
        return [NO_ROOM]
    house.tiers[limit] = thousandths
    return [len(house.tiers)]


def answer_price(house, work):
    if not is_grade_and_time(work):
        return [OUT_OF_RANGE]
    refusal = refusal_of_units(work.units)
    if refusal < 0:
        return [refusal]
    return with_row(0, [price_of(house, work), exact_cost_of(house, work)])
