"""Days, months and years: day 1 is Monday, January 1 of 1900; month 0 is January 1900."""

FIRST_YEAR = 1900
LAST_YEAR = 2899
LAST_DAY = 365243
LAST_MONTH = 11999
MONTH_LENGTHS = (31, 28, 31, 30, 31, 30, 31, 31, 30, 31, 30, 31)


def is_leap_year(year):
    if year % 100 == 0:
        return year % 400 == 0
    return year % 4 == 0


def days_in_month(year, month):
    if month == 2 and is_leap_year(year):
        return 29
    return MONTH_LENGTHS[month - 1]


def leap_years_up_to(year):
    return year // 4 - year // 100 + year // 400


def days_before_year(year):
    leap_days = leap_years_up_to(year - 1) - leap_years_up_to(FIRST_YEAR - 1)
    return 365 * (year - FIRST_YEAR) + leap_days


def year_of(day):
    # No year is longer than 366 days, so this first guess is never too late.
    year = FIRST_YEAR + (day - 1) // 366
    while days_before_year(year + 1) < day:
        year += 1
    return year


def date_of(day):
    """The year, the month (1 to 12) and the day of the month, as a tuple."""
    year = year_of(day)
    rest = day - days_before_year(year)
    month = 1
    while rest > days_in_month(year, month):
        rest -= days_in_month(year, month)
        month += 1
    return (year, month, rest)


def month_number(year, month):
    return (year - FIRST_YEAR) * 12 + month - 1


def month_of(day):
    date = date_of(day)
    return month_number(date[0], date[1])


def weekday_of(day):
    return (day - 1) % 7 + 1


def day_of(year, month, day_of_month):
    day = days_before_year(year) + day_of_month
    for earlier in range(1, month):
        day += days_in_month(year, earlier)
    return day
