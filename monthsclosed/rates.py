"""Which prime hours and which rate are in force."""

USUAL_PRIME_HOURS = (480, 1080)


def prime_hours_of(house, day):
    """From and to, as a tuple."""
    latest = max([since for since in house.prime_hours if since <= day], default=0)
    return house.prime_hours.get(latest, USUAL_PRIME_HOURS)


def latest_rate_day(house, kind, shift, grade, day):
    """The latest day, not later than the day, from which such a rate holds; 0 if there is none."""
    latest = 0
    for place in house.rates:
        if place[:3] == (kind, shift, grade) and latest < place[3] and place[3] <= day:
            latest = place[3]
    return latest


def rate_in_force(house, kind, shift, grade, day):
    # Class 0 stands in only where the class has no rate yet: a rate of 0 is a rate, too.
    for each in (grade, 0):
        latest = latest_rate_day(house, kind, shift, each, day)
        if latest > 0:
            return house.rates[(kind, shift, each, latest)]
    return 0
