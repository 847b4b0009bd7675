"""price: what work costs, and how that is rounded."""

import unittest

from monthsclosed.arithmetic import rounded_to_thousands
from tests.helper import (
    GREATEST, GREATEST_RATE, LAST_DAY, LEAST, MOST_UNITS, LineTest, account, begin, charge, price, prime, rate, tier,
    when,
)

# Of a minute in prime hours, in others, and at the weekend: each can be told apart in a sum.
MINUTE_RATES = [(rate(1, 1, 0, 1, 1000000), 1), (rate(1, 2, 0, 1, 1000), 2), (rate(1, 3, 0, 1, 1), 3)]
BOUNDS = ((1, 36), (1, LAST_DAY), (0, 1439), (0, 10080))


def costs(exact):
    """The answer of work whose exact cost doesn't end in 500."""
    if exact % 1000 == 500:
        raise AssertionError("of two thousands as near, a test tells itself which it is")
    return [0, 2, (exact + 500) // 1000, exact]


def shifts(prime_minutes, other_minutes, weekend_minutes):
    return costs(prime_minutes * 1000000 + other_minutes * 1000 + weekend_minutes)


class Minutes(LineTest):
    def test_none(self):
        self.assert_line(MINUTE_RATES + [
            (price(1, 1, 0, 0), costs(0)), (price(1, 1, 600, 0), costs(0)), (price(36, LAST_DAY, 1439, 0), costs(0)),
        ])

    def test_without_rates_all_is_free(self):
        self.assert_line([
            (price(1, 1, 0, 10080), costs(0)), (price(36, LAST_DAY, 1439, 1, [MOST_UNITS] * 4), costs(0)),
        ])

    def test_ends_of_the_usual_prime_hours(self):
        self.assert_line(MINUTE_RATES + [
            (price(1, 1, 479, 1), shifts(0, 1, 0)), (price(1, 1, 480, 1), shifts(1, 0, 0)),
            (price(1, 1, 1079, 1), shifts(1, 0, 0)), (price(1, 1, 1080, 1), shifts(0, 1, 0)),
            (price(1, 1, 479, 2), shifts(1, 1, 0)), (price(1, 1, 1079, 2), shifts(1, 1, 0)),
            (price(1, 1, 478, 604), shifts(600, 4, 0)), (price(1, 1, 500, 10), shifts(10, 0, 0)),
            (price(1, 1, 0, 480), shifts(0, 480, 0)), (price(1, 1, 0, 481), shifts(1, 480, 0)),
            (price(1, 1, 1080, 360), shifts(0, 360, 0)), (price(1, 1, 0, 1440), shifts(600, 840, 0)),
        ])

    def test_each_weekday(self):
        self.assert_line(MINUTE_RATES + [
            (price(1, number, 0, 1440), shifts(0, 0, 1440) if number % 7 in (6, 0) else shifts(600, 840, 0))
            for number in range(1, 16)
        ])

    def test_over_midnight(self):
        self.assert_line(MINUTE_RATES + [
            (price(1, 1, 1439, 1), shifts(0, 1, 0)), (price(1, 1, 1439, 2), shifts(0, 2, 0)),
            (price(1, 1, 1439, 481), shifts(0, 481, 0)), (price(1, 1, 1439, 482), shifts(1, 481, 0)),
            (price(1, 1, 1000, 1440), shifts(600, 840, 0)), (price(1, 1, 0, 2880), shifts(1200, 1680, 0)),
        ])

    def test_over_a_weekend(self):
        self.assert_line(MINUTE_RATES + [
            (price(1, 5, 1439, 2), shifts(0, 1, 1)), (price(1, 7, 1439, 2), shifts(0, 1, 1)),
            (price(1, 6, 1439, 2), shifts(0, 0, 2)), (price(1, 5, 1439, 2882), shifts(0, 2, 2880)),
            (price(1, 5, 1079, 1 + 360 + 2880 + 480 + 1), shifts(2, 840, 2880)),
        ])

    def test_a_whole_week_from_anywhere(self):
        week = shifts(3000, 4200, 2880)
        self.assert_line(MINUTE_RATES + [
            (price(1, number, minute, 10080), week)
            for number in (1, 4, 6, 7, 8, 5000) for minute in (0, 1, 479, 480, 700, 1080, 1439)
        ])

    def test_over_a_change_of_prime_hours(self):
        self.assert_line(MINUTE_RATES + [
            (prime(2, 0, 10), 1), (prime(4, 1430, 1440), 2), (prime(3, 700, 700), 3),
            (price(1, 1, 0, 1440), shifts(600, 840, 0)), (price(1, 2, 0, 1440), shifts(10, 1430, 0)),
            (price(1, 3, 0, 1440), shifts(0, 1440, 0)), (price(1, 4, 0, 1440), shifts(10, 1430, 0)),
            (price(1, 1, 1079, 1 + 360 + 11), shifts(11, 361, 0)),
            (price(1, 2, 9, 1431 + 1440 + 1431), shifts(2, 4300, 0)),
            (price(1, 1, 0, 7200), shifts(630, 6570, 0)), (price(1, 12, 1429, 3), shifts(2, 1, 0)),
        ])

    def test_prime_hours_of_a_whole_day_and_of_none(self):
        self.assert_line(MINUTE_RATES + [
            (prime(2, 0, 1440), 1), (prime(3, 0, 0), 2), (prime(4, 1440, 1440), 3), (prime(6, 0, 1440), 4),
            (price(1, 2, 0, 1440), shifts(1440, 0, 0)), (price(1, 3, 0, 1440), shifts(0, 1440, 0)),
            (price(1, 4, 0, 1440), shifts(0, 1440, 0)), (price(1, 6, 0, 1440), shifts(0, 0, 1440)),
            (price(1, 8, 0, 1440), shifts(1440, 0, 0)), (price(1, 2, 1439, 2), shifts(1, 1, 0)),
        ])

    def test_prime_hours_replaced(self):
        self.assert_line(MINUTE_RATES + [
            (prime(1, 0, 1), 1), (price(1, 1, 0, 5), shifts(1, 4, 0)), (prime(1, 0, 3), 1),
            (price(1, 1, 0, 5), shifts(3, 2, 0)), (prime(LAST_DAY, 0, 4), 2), (price(1, 1, 0, 5), shifts(3, 2, 0)),
        ])

    def test_over_a_change_of_rates(self):
        self.assert_line(MINUTE_RATES + [
            (rate(1, 2, 0, 2, 7), 4), (price(1, 1, 1439, 2), costs(1007)), (rate(1, 2, 5, 2, 9), 5),
            (price(5, 1, 1439, 2), costs(1009)), (price(1, 1, 1439, 2), costs(1007)), (rate(1, 2, 5, 3, 0), 6),
            (price(5, 2, 1439, 2), costs(9)), (price(5, 1, 1438, 1444), costs(2000 + 840 * 9 + 600 * 1000000)),
            (rate(1, 1, 5, 3, 2), 7), (price(5, 2, 1079, 361 + 481), costs(1000000 + 360 * 9 + 2)),
            (rate(1, 3, 0, 7, 100), 8), (price(1, 6, 1430, 20), costs(10 + 1000)),
        ])

    def test_the_works_class(self):
        self.assert_line([
            (rate(1, 1, 36, 1, 30), 1), (rate(1, 1, 1, 1, 40), 2), (price(36, 1, 480, 10), costs(300)),
            (price(1, 1, 480, 10), costs(400)), (price(2, 1, 480, 10), costs(0)), (rate(1, 1, 0, 1, 1), 3),
            (price(2, 1, 480, 10), costs(10)), (price(1, 1, 480, 10), costs(400)),
        ])


class Units(LineTest):
    def test_each_kind(self):
        self.assert_line([
            (rate(2, 0, 0, 1, 1), 1), (rate(3, 0, 0, 1, 100), 2), (rate(4, 0, 0, 1, 10000), 3),
            (rate(5, 0, 0, 1, 1000000), 4), (price(1, 1, 0, 0, (1, 0, 0, 0)), costs(1)),
            (price(1, 1, 0, 0, (0, 1, 0, 0)), costs(100)), (price(1, 1, 0, 0, (0, 0, 1, 0)), costs(10000)),
            (price(1, 1, 0, 0, (0, 0, 0, 1)), costs(1000000)), (price(1, 1, 0, 0, (2, 3, 4, 5)), costs(5040302)),
            (rate(1, 1, 0, 1, 10**9), 5), (price(1, 1, 480, 2, (2, 3, 4, 5)), costs(2005040302)),
        ])

    def test_by_the_day_on_which_the_work_ends(self):
        units = (6, 0, 0, 0)
        self.assert_line([
            (rate(2, 0, 0, 1, 1), 1), (rate(2, 0, 0, 2, 10), 2), (rate(2, 0, 0, 3, 100), 3),
            (price(1, 1, 0, 0, units), costs(6)), (price(1, 2, 0, 0, units), costs(60)),
            (price(1, 1, 1439, 0, units), costs(6)), (price(1, 1, 1439, 1, units), costs(6)),
            (price(1, 1, 1439, 2, units), costs(60)), (price(1, 1, 0, 1440, units), costs(6)),
            (price(1, 1, 0, 1441, units), costs(60)), (price(1, 1, 0, 2880, units), costs(60)),
            (price(1, 1, 0, 2881, units), costs(600)), (price(1, 2, 0, 1, units), costs(60)),
        ])

    def test_over_the_longest_work(self):
        units = (1, 0, 0, 0)
        self.assert_line([(rate(2, 0, 0, number, number), number) for number in range(1, 10)] + [
            (price(1, 1, 0, 10080, units), costs(7)), (price(1, 1, 1, 10080, units), costs(8)),
            (price(1, 1, 1439, 10080, units), costs(8)), (price(1, 2, 0, 10080, units), costs(8)),
            (price(1, 2, 1439, 10080, units), costs(9)),
        ])

    def test_the_works_class(self):
        self.assert_line([
            (rate(4, 0, 3, 5, 7), 1), (rate(4, 0, 0, 3, 2), 2), (price(3, 2, 0, 0, (0, 0, 1, 0)), costs(0)),
            (price(3, 3, 0, 0, (0, 0, 1, 0)), costs(2)), (price(3, 5, 0, 0, (0, 0, 1, 0)), costs(7)),
            (price(4, 5, 0, 0, (0, 0, 1, 0)), costs(2)),
        ])


class Rounding(LineTest):
    PAIRS = (
        (0, 0), (1, 0), (499, 0), (500, 0), (501, 1), (999, 1), (1000, 1), (1001, 1), (1499, 1), (1500, 2), (1501, 2),
        (2000, 2), (2499, 2), (2500, 2), (2501, 3), (3499, 3), (3500, 4), (3501, 4), (4500, 4), (999499, 999),
        (999500, 1000), (999501, 1000), (10**9 - 500, 10**6), (10**9 - 1500, 999998),
    )

    def test_of_the_price(self):
        self.assert_line([(rate(2, 0, 0, 1, 1), 1)] + [
            (price(1, 1, 0, 0, (exact, 0, 0, 0)), [0, 2, rounded, exact]) for exact, rounded in self.PAIRS
        ])

    def test_once_for_all_that_is_added_up(self):
        self.assert_line([
            (rate(2, 0, 0, 1, 1), 1), (rate(3, 0, 0, 1, 1), 2), (rate(1, 1, 0, 1, 1), 3), (rate(1, 2, 0, 1, 1), 4),
            (price(1, 1, 0, 0, (400, 400, 0, 0)), [0, 2, 1, 800]),
            (price(1, 1, 0, 960, (540, 0, 0, 0)), [0, 2, 2, 1500]),
            (price(1, 1, 479, 400, (50, 50, 0, 0)), [0, 2, 0, 500]),
            (price(1, 1, 479, 401, (50, 50, 0, 0)), [0, 2, 1, 501]),
        ])

    def test_of_great_numbers(self):
        # Such numbers are beyond what a number with a point could tell apart.
        for whole in (10**22, 10**22 + 1):
            even = whole + whole % 2
            self.assertEqual(rounded_to_thousands(whole * 1000 + 499), whole)
            self.assertEqual(rounded_to_thousands(whole * 1000 + 500), even)
            self.assertEqual(rounded_to_thousands(whole * 1000 + 501), whole + 1)

    def test_a_great_price_told_to_the_last_digit(self):
        self.assert_line([
            (rate(2, 0, 0, 1, GREATEST_RATE - 1), 1), (rate(3, 0, 0, 1, 500), 2), (rate(4, 0, 0, 1, 1500), 3),
            (price(1, 1, 0, 0, (MOST_UNITS, 1, 0, 0)), [0, 2, 10**18 - 10**6, 10**21 - 10**9 + 500]),
            (price(1, 1, 0, 0, (MOST_UNITS, 0, 1, 0)), [0, 2, 10**18 - 10**6 + 2, 10**21 - 10**9 + 1500]),
        ])


class BehindTheLastDay(LineTest):
    def test_days_are_counted_on(self):
        # Day 365243 is a Thursday.
        self.assert_line(MINUTE_RATES + [
            (price(1, LAST_DAY, 1439, 1), shifts(0, 1, 0)), (price(1, LAST_DAY, 1439, 2), shifts(0, 2, 0)),
            (price(1, LAST_DAY, 1439, 1 + 1440 + 1), shifts(600, 841, 1)),
            (price(1, LAST_DAY, 0, 2880), shifts(1200, 1680, 0)), (price(1, LAST_DAY, 0, 2881), shifts(1200, 1680, 1)),
            (price(1, LAST_DAY, 0, 5 * 1440), shifts(1800, 2520, 2880)),
            (price(1, LAST_DAY, 0, 10080), shifts(3000, 4200, 2880)),
            (price(1, LAST_DAY, 1439, 10080), shifts(3000, 4200, 2880)),
        ])

    def test_prime_hours_and_rates_stay_in_force(self):
        units = (1, 0, 0, 0)
        self.assert_line(MINUTE_RATES + [
            (prime(LAST_DAY, 0, 5), 1), (price(1, LAST_DAY, 1439, 7), shifts(5, 2, 0)), (rate(1, 1, 0, LAST_DAY, 3), 4),
            (price(1, LAST_DAY, 1439, 7), costs(2015)), (rate(2, 0, 1, LAST_DAY, 10**9), 5),
            (price(1, LAST_DAY, 0, 10080, units), costs(10**9 + 25 * 3 + (7200 - 25) * 1000 + 2880)),
            (price(1, LAST_DAY - 1, 0, 0, units), costs(0)),
        ])


class Greatest(LineTest):
    def test_rates_and_units_together(self):
        rates = [rate(1, shift, 0, 1, GREATEST_RATE) for shift in (1, 2, 3)]
        rates += [rate(kind, 0, 0, 1, GREATEST_RATE) for kind in (2, 3, 4, 5)]
        exact = (10080 + 4 * MOST_UNITS) * GREATEST_RATE
        self.assert_line([(call, place + 1) for place, call in enumerate(rates)] + [
            (price(36, LAST_DAY, 1439, 10080, [MOST_UNITS] * 4), [0, 2, exact // 1000, exact]),
            (price(1, 1, 0, 10080), [0, 2, 10080 * 10**9, 10080 * GREATEST_RATE]),
        ])


class Refusals(LineTest):
    def test_ends_of_the_ranges(self):
        for place, bounds in enumerate(BOUNDS):
            for number, answer in (
                (bounds[0], costs(0)), (bounds[1], costs(0)), (bounds[0] - 1, -1), (bounds[1] + 1, -1), (LEAST, -1),
                (GREATEST, -1),
            ):
                work = [1, 1, 0, 0]
                work[place] = number
                with self.subTest(work=work):
                    self.assert_line([(price(*work), answer)])

    def test_units(self):
        self.assert_line([
            (price(1, 1, 0, 0, ()), -2), (price(1, 1, 0, 0, (0, 0, 0)), -2),
            (price(1, 1, 0, 0, (0, 0, 0, 0)), costs(0)),
            (price(1, 1, 0, 0, (0, 0, 0, 0, 0)), -2), (price(1, 1, 0, 0, [0] * 20), -2), (price(1, 1, 0, 0, (1,)), -2),
        ])
        for place in range(4):
            for number, answer in ((MOST_UNITS, costs(0)), (-1, -1), (MOST_UNITS + 1, -1), (LEAST, -1), (GREATEST, -1)):
                units = [0] * 4
                units[place] = number
                self.assert_line([(price(1, 1, 0, 0, units), answer)])

    def test_order(self):
        house = self.house_after([rate(1, 1, 0, 1, 5)])
        for work in ((0, 1, 0, 0), (1, 0, 0, 0), (1, 1, -1, 0), (1, 1, 0, -1), (37, 0, 1440, 10081)):
            for units in ((), (0,) * 3, (-1,) * 4, (0,) * 5):
                self.assert_refused(house, price(*work, units), -1)
        for units in ((), (-1,), (LEAST,) * 3, (GREATEST,) * 5, (-1,) * 20):
            self.assert_refused(house, price(1, 1, 0, 0, units), -2)
        self.assert_refused(house, price(1, 1, 0, 0, (0, 0, 0, -1)), -1)


class NothingElse(LineTest):
    def test_it_changes_nothing(self):
        self.assert_line([
            (begin(9, 1, 1), 0), (account("A"), 1), (rate(2, 0, 0, 1, 1000), 1), (tier(0, 1000), 1),
            (price(1, 500, 0, 10080, (7, 0, 0, 0)), costs(7000)), (when(), [9, 4, 0, 0, 0, 0]),
            (rate(2, 0, 0, 1, 2000), 1),
            (price(1, 1, 0, 0, (7, 0, 0, 0)), costs(14000)), (charge(1, 9, 0, 0, "A", (7, 0, 0, 0)), [1, 2, 14, 0]),
            (price(1, 1, 0, 0, (7, 0, 0, 0)), costs(14000)), (when(), [9, 4, 0, 0, 9, 1]),
        ])

    def test_it_does_not_ask_for_today(self):
        self.assert_line(MINUTE_RATES + [
            (price(1, 1, 480, 1), shifts(1, 0, 0)), (price(1, 1000, 0, 1440), shifts(0, 0, 1440)),
            (begin(2000), 0), (rate(1, 1, 0, 1, 10), 1), (price(1, 1, 480, 1), costs(10)),
        ])


if __name__ == "__main__":
    unittest.main()
