"""begin, day, date, dayof."""

import datetime
import unittest

from monthsclosed.accounts import answers
from monthsclosed.house import CHARGE, Entry
from tests.helper import (
    GREATEST, LAST_DAY, LEAST, MOST, LineTest, account, admit, begin, budget, date, day, dayof, prime, rate, rateof,
    shut, state, take_apart, tier,
)

EVE = datetime.date(1899, 12, 31)


def calendar_answer(number):
    that = EVE + datetime.timedelta(days=number)
    return [(that.year - 1900) * 12 + that.month - 1, 4, that.year, that.month, that.day, that.isoweekday()]


class Begin(LineTest):
    def test_ends_of_the_ranges(self):
        self.assert_line([
            (begin(1, 1, 1), 0), (begin(LAST_DAY, 200, 500), 0),
            (begin(0, 1, 1), -1), (begin(LAST_DAY + 1, 1, 1), -1), (begin(-1, 1, 1), -1),
            (begin(1, 0, 1), -1), (begin(1, 201, 1), -1), (begin(1, -1, 1), -1),
            (begin(1, 1, 0), -1), (begin(1, 1, 501), -1), (begin(1, 1, -1), -1),
            (begin(LEAST, LEAST, LEAST), -1), (begin(GREATEST, GREATEST, GREATEST), -1),
        ])

    def test_all_is_new(self):
        rates = [rate(2, 0, grade, 1, 5) for grade in range(37)]
        tiers = [tier(limit, 1) for limit in range(5)]
        primes = [prime(number, 1, 2) for number in range(1, 21)]
        used = rates + tiers + primes + [account("A"), account("B", "A"), shut("A"), budget(0, "B"), day(900)]
        fresh = [
            begin(50, 2, 3), rateof(2, 0, 5, 900), rate(2, 0, 0, 1, 5), tier(9, 1), prime(300, 0, 1), day(49), day(50),
            account("B"), admit(MOST, "B"), account("A"), account("C"),
        ]
        parts = self.run_line(used + fresh)
        self.assertEqual(parts[len(used):], [[0], [0], [1], [1], [1], [-1], [0], [1], [0], [2], [-8]])

    def test_caps_today_and_closed_months(self):
        house = self.house_after([begin(60, 7, 8)])
        self.assertEqual((house.today, house.account_cap, house.entry_cap), (60, 7, 8))
        self.assertEqual((house.closed_months, house.last_day_charged), (2, 0))
        for number, closed in ((1, 0), (31, 0), (32, 1), (365, 11), (366, 12), (LAST_DAY, 11999)):
            self.assertEqual(self.house_after([begin(number)]).closed_months, closed)

    def test_nothing_is_left_of_entries_and_invoices(self):
        house = self.house_after([account("A"), tier(5, 5)])
        house.entries.append(Entry(CHARGE, (65,), 0, 5, ()))
        house.invoices[0] = {(65,): (5, 0, 0, 5)}
        house.last_day_charged = 40
        self.assert_answer(house, begin(3, 4, 5), [0])
        self.assertEqual(state(house), state(self.house_after([begin(3, 4, 5)])))

    def test_nothing_has_changed_behind_a_refusal(self):
        house = self.house_after([begin(60, 7, 8), account("A"), prime(90, 1, 2), rate(1, 1, 1, 1, 1), tier(1, 1)])
        for call in (begin(0, 1, 1), begin(1, 0, 1), begin(1, 1, 0), begin(1, 1, 501), begin(1, 201, 1)):
            self.assert_refused(house, call, -1)
        self.assert_line([
            (begin(60, 1, 1), 0), (account("A"), 1), (begin(1, 200, 501), -1), (account("B"), -8), (day(59), -1),
            (account("A"), -5),
        ])


class Day(LineTest):
    def test_from_today_on(self):
        self.assert_line([
            (day(0), -1), (day(1), 0), (day(1), 0), (day(2), 0), (day(1), -1), (day(2), 0), (day(LAST_DAY + 1), -1),
            (day(LEAST), -1), (day(GREATEST), -1), (day(-1), -1), (day(1000), 0), (day(999), -1), (day(LAST_DAY), 0),
            (day(LAST_DAY - 1), -1), (day(LAST_DAY), 0), (begin(5), 0), (day(4), -1), (day(5), 0),
        ])

    def test_it_changes_today_alone(self):
        house = self.house_after([begin(10), account("A"), rate(1, 1, 1, 1, 1)])
        before = state(house)
        self.assert_answer(house, day(900), [0])
        before["today"] = 900
        self.assertEqual(state(house), before)
        for number in (899, LAST_DAY + 1, LEAST, GREATEST):
            self.assert_refused(house, day(number), -1)


class Date(LineTest):
    def test_ordinary_days(self):
        self.assert_line([
            (date(1), [0, 4, 1900, 1, 1, 1]), (date(7), [0, 4, 1900, 1, 7, 7]), (date(8), [0, 4, 1900, 1, 8, 1]),
            (date(31), [0, 4, 1900, 1, 31, 3]), (date(32), [1, 4, 1900, 2, 1, 4]),
            (date(365), [11, 4, 1900, 12, 31, 1]), (date(366), [12, 4, 1901, 1, 1, 2]),
            (date(LAST_DAY), [11999, 4, 2899, 12, 31, 4]),
        ])

    def test_beyond_the_ends(self):
        self.assert_line([(date(number), -1) for number in (0, -1, LAST_DAY + 1, LEAST, GREATEST)])

    def test_it_does_not_ask_for_today(self):
        self.assert_line([(begin(500), 0), (date(1), [0, 4, 1900, 1, 1, 1]), (day(500), 0), (day(499), -1)])

    def test_every_day(self):
        for first in range(1, LAST_DAY + 1, 400):
            numbers = range(first, min(first + 400, LAST_DAY + 1))
            line = [value for number in numbers for value in date(number)]
            self.assertEqual(take_apart(answers(line)), [calendar_answer(number) for number in numbers])


class DayOf(LineTest):
    def test_ends_of_the_ranges(self):
        self.assert_line([
            (dayof(1900, 1, 1), 1), (dayof(1899, 12, 31), -1), (dayof(2899, 12, 31), LAST_DAY),
            (dayof(2900, 1, 1), -1), (dayof(1900, 0, 1), -1), (dayof(1900, 13, 1), -1), (dayof(1900, 12, 1), 335),
            (dayof(1900, 1, 0), -1), (dayof(1900, 1, 31), 31), (dayof(1900, 1, 32), -1), (dayof(1900, 12, 31), 365),
            (dayof(1900, 12, 32), -1), (dayof(1900, -1, 1), -1), (dayof(1900, 1, -1), -1),
            (dayof(LEAST, LEAST, LEAST), -1), (dayof(GREATEST, GREATEST, GREATEST), -1),
        ])

    def test_leap_years(self):
        for year, is_leap in ((1900, False), (1904, True), (2000, True), (2100, False), (2400, True), (1901, False),
                              (2023, False), (2024, True), (2800, True), (2899, False), (2896, True)):
            last = 29 if is_leap else 28
            end = (datetime.date(year, 2, last) - EVE).days
            month = (year - 1900) * 12 + 1
            with self.subTest(year=year):
                self.assert_line([
                    (dayof(year, 2, 28), end - last + 28), (dayof(year, 2, 29), end if is_leap else -1),
                    (dayof(year, 2, 30), -1), (dayof(year, 3, 1), end + 1),
                    (date(end), [month, 4, year, 2, last, (end - 1) % 7 + 1]),
                    (date(end + 1), [month + 1, 4, year, 3, 1, end % 7 + 1]),
                ])

    def test_months_of_every_year(self):
        for year in range(1900, 2900):
            line, wanted = [], []
            for month in range(1, 13):
                first = (datetime.date(year, month, 1) - EVE).days
                later = datetime.date(year + month // 12, month % 12 + 1, 1)
                length = (later - EVE).days - first
                line += dayof(year, month, 1) + dayof(year, month, length) + dayof(year, month, length + 1)
                wanted += [[first], [first + length - 1], [-1]]
            self.assertEqual(take_apart(answers(line)), wanted)


if __name__ == "__main__":
    unittest.main()
