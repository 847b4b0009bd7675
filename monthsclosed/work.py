"""What work costs."""

from monthsclosed.arithmetic import rounded_to_thousands
from monthsclosed.checks import is_day, is_within
from monthsclosed.dates import weekday_of
from monthsclosed.rates import prime_hours_of, rate_in_force
from monthsclosed.refusals import OUT_OF_RANGE, WRONG_FORM

MINUTES_OF_DAY = 1440
MOST_MINUTES = 10080
GREATEST_GRADE = 36
KINDS_OF_UNITS = (2, 3, 4, 5)
MOST_UNITS = 1000000000


class Work:
    """The day and the minute are those at which it begins; of units there is a number for each kind of them."""

    def __init__(self, grade, day, minute, minutes, units):
        self.grade = grade
        self.day = day
        self.minute = minute
        self.minutes = minutes
        self.units = units


def is_grade_and_time(work):
    """Whether all but the units is within its range."""
    if not (is_within(work.grade, 1, GREATEST_GRADE) and is_day(work.day)):
        return False
    return is_within(work.minute, 0, MINUTES_OF_DAY - 1) and is_within(work.minutes, 0, MOST_MINUTES)


def refusal_of_units(units):
    if len(units) != len(KINDS_OF_UNITS):
        return WRONG_FORM
    if not all([is_within(number, 0, MOST_UNITS) for number in units]):
        return OUT_OF_RANGE
    return 0


def end_of(work):
    """The day on which the work ends."""
    if work.minutes == 0:
        return work.day
    return work.day + (work.minute + work.minutes - 1) // MINUTES_OF_DAY


def cost_within_day(house, grade, day, start, stop):
    """Of the minutes from start on that are less than stop, all of that day."""
    if weekday_of(day) >= 6:
        return (stop - start) * rate_in_force(house, 1, 3, grade, day)
    hours = prime_hours_of(house, day)
    prime = max(0, min(stop, hours[1]) - max(start, hours[0]))
    other = stop - start - prime
    return prime * rate_in_force(house, 1, 1, grade, day) + other * rate_in_force(house, 1, 2, grade, day)


def cost_of_minutes(house, work):
    cost = 0
    day = work.day
    start = work.minute
    left = work.minutes
    while left > 0:
        stop = min(start + left, MINUTES_OF_DAY)
        cost += cost_within_day(house, work.grade, day, start, stop)
        left -= stop - start
        day += 1
        start = 0
    return cost


def cost_of_units(house, work):
    cost = 0
    for kind, number in zip(KINDS_OF_UNITS, work.units):
        cost += number * rate_in_force(house, kind, 0, work.grade, end_of(work))
    return cost


def exact_cost_of(house, work):
    """In thousandths."""
    return cost_of_minutes(house, work) + cost_of_units(house, work)


def price_of(house, work):
    return rounded_to_thousands(exact_cost_of(house, work))
