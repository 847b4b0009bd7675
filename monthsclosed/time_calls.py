"""The calls on time: each gives back what it answers, as a list."""

from monthsclosed.checks import is_day, is_within
from monthsclosed.dates import FIRST_YEAR, LAST_DAY, LAST_YEAR, date_of, day_of, days_in_month, month_number, month_of
from monthsclosed.dates import weekday_of
from monthsclosed.refusals import OUT_OF_RANGE
from monthsclosed.rows import with_row


def answer_begin(house, day, accounts, entries):
    if not (is_day(day) and is_within(accounts, 1, 200) and is_within(entries, 1, 500)):
        return [OUT_OF_RANGE]
    house.renew(day, accounts, entries)
    return [0]


def answer_day(house, day):
    if not is_within(day, house.today, LAST_DAY):
        return [OUT_OF_RANGE]
    house.today = day
    return [0]


def answer_date(day):
    if not is_day(day):
        return [OUT_OF_RANGE]
    date = date_of(day)
    return with_row(month_number(date[0], date[1]), [date[0], date[1], date[2], weekday_of(day)])


def answer_dayof(year, month, day_of_month):
    if not (is_within(year, FIRST_YEAR, LAST_YEAR) and is_within(month, 1, 12)):
        return [OUT_OF_RANGE]
    if not is_within(day_of_month, 1, days_in_month(year, month)):
        return [OUT_OF_RANGE]
    return [day_of(year, month, day_of_month)]


def answer_when(house):
    row = [month_of(house.today), house.closed_months, house.last_day_charged, len(house.entries)]
    return with_row(house.today, row)
