"""charge, credit, overhead, entry, statement."""

import unittest

from tests.helper import (
    GREATEST, GREATEST_RATE, LAST_DAY, LEAST, MOST, MOST_UNITS, NO_CODES, NO_UNITS, UNIT_RATE, LineTest, account,
    admit, begin, budget, chain, charge, cost, credit, date, day, entry, month, move, overhead, price, prime, rate,
    rateof, row, rows, shut, spent, state, statement, total, when,
)

START = [(account("A"), 1), (UNIT_RATE, 1)]
# The whole numbers of a charge that are asked first, with their ranges; the day's range is asked apart from today.
BOUNDS = ((1, 36), (1, LAST_DAY), (0, 1439), (0, 10080))


class Charge(LineTest):
    def test_ordinary(self):
        self.assert_line([
            (begin(40), 0), (account("A"), 1), (account("B", "A"), 2), (rate(1, 1, 0, 1, 1500), 1),
            (rate(2, 0, 7, 1, 250), 2), (charge(7, 39, 480, 3, "B", (2, 9, 9, 9)), [1, 2, 5, 1]),
            (charge(1, 40, 480, 3, "A", (2, 9, 9, 9)), [2, 2, 4, 1]), (charge(7, 39, 0, 0, "A"), [3, 2, 0, 1]),
            (entry(1), [1] + rows("B", [1, 5], [7, 39, 480, 3, 2, 9, 9, 9])),
            (entry(2), [1] + rows("A", [1, 4], [1, 40, 480, 3, 2, 9, 9, 9])),
            (entry(3), [1] + rows("A", [1, 0], [7, 39, 0, 0, 0, 0, 0, 0])),
            (when(), [40, 4, 1, 1, 40, 3]),
        ])

    def test_it_costs_what_price_tells(self):
        work = (3, 4, 1000, 5000)
        units = (11, 0, 7, 1)
        house = self.house_after([
            begin(20), account("A"), prime(6, 0, 9), prime(5, 100, 200), rate(1, 1, 0, 1, 333), rate(1, 2, 3, 5, 77),
            rate(1, 3, 3, 7, 59), rate(1, 3, 0, 1, 5), rate(2, 0, 0, 7, 6), rate(4, 0, 3, 8, 1234),
        ])
        # Day 4 from minute 1000 on, days 5 to 7, and day 8 up to minute 239.
        exact = 80 * 333 + (100 * 333 + 1340 * 77) + 1440 * 5 + 1440 * 59 + (9 * 333 + 231 * 77) + 11 * 6 + 7 * 1234
        self.assert_answer(house, price(*work, units), [0, 2, 285, exact])
        self.assert_answer(house, charge(*work, "A", units), [1, 2, 285, 0])
        self.assertEqual(house.last_day_charged, 8)

    def test_rounding(self):
        exacts = (499, 500, 501, 1499, 1500, 1501, 2499, 2500, 2501, 3500)
        amounts = (0, 0, 1, 1, 2, 2, 2, 2, 3, 4)
        self.assert_line([(account("A"), 1), (rate(3, 0, 0, 1, 1), 1)] + [
            (charge(1, 1, 0, 0, "A", (0, exact, 0, 0)), [place + 1, 2, amount, 0])
            for place, (exact, amount) in enumerate(zip(exacts, amounts))
        ] + [(spent(0, "A"), [0, 3, sum(amounts), sum(amounts), 0])])

    def test_the_greatest(self):
        rates = [rate(1, shift, 0, 1, GREATEST_RATE) for shift in (1, 2, 3)]
        rates += [rate(kind, 0, 0, 1, GREATEST_RATE) for kind in (2, 3, 4, 5)]
        exact = (10080 + 4 * MOST_UNITS) * GREATEST_RATE
        amount = exact // 1000
        self.assert_line([(call, place + 1) for place, call in enumerate(rates)] + [
            (begin(LAST_DAY), 0), (account("ZZZZ9999"), 1),
        ] + [(call, place + 1) for place, call in enumerate(rates)] + [
            (charge(36, LAST_DAY - 7, 1439, 10080, "ZZZZ9999", [MOST_UNITS] * 4), [1, 2, amount, 11999]),
            (charge(36, LAST_DAY - 7, 1439, 10080, "ZZZZ9999", [MOST_UNITS] * 4), [2, 2, amount, 11999]),
            (spent(11999, "ZZZZ9999"), [0, 3, 2 * amount, 2 * amount, 0]),
            (when(), [LAST_DAY, 4, 11999, 11999, LAST_DAY, 2]),
        ])

    def test_ends_of_the_ranges(self):
        for place, bounds in enumerate(BOUNDS):
            for number, answer in (
                (bounds[0], [1, 2, 0, 11999]), (bounds[1], [1, 2, 0, 11999]), (bounds[0] - 1, -1), (bounds[1] + 1, -1),
                (LEAST, -1), (GREATEST, -1),
            ):
                work = [1, 1, 0, 0]
                work[place] = number
                with self.subTest(work=work):
                    self.assert_line([(begin(LAST_DAY), 0), (account("A"), 1), (charge(*work, "A"), answer)])

    def test_units(self):
        self.assert_line([(account("A"), 1)] + [
            (charge(1, 1, 0, 0, "A", [0] * size), answer)
            for size, answer in ((0, -2), (1, -2), (3, -2), (4, [1, 2, 0, 0]), (5, -2), (20, -2))
        ])
        for place in range(4):
            for number, answer in (
                (MOST_UNITS, [1, 2, 0, 0]), (-1, -1), (MOST_UNITS + 1, -1), (LEAST, -1), (GREATEST, -1),
            ):
                units = [0] * 4
                units[place] = number
                self.assert_line([(account("A"), 1), (charge(1, 1, 0, 0, "A", units), answer)])

    def test_work_that_ends_today_and_later(self):
        self.assert_line([
            (account("A"), 1), (charge(1, 1, 1439, 1, "A"), [1, 2, 0, 0]), (charge(1, 1, 1439, 2, "A"), -12),
            (charge(1, 1, 0, 1440, "A"), [2, 2, 0, 0]), (charge(1, 1, 0, 1441, "A"), -12),
            (charge(1, 2, 0, 0, "A"), -12),
            (charge(1, 1, 1439, 0, "A"), [3, 2, 0, 0]), (day(2), 0), (charge(1, 1, 1439, 2, "A"), [4, 2, 0, 0]),
            (charge(1, 2, 0, 0, "A"), [5, 2, 0, 0]), (charge(1, 2, 1, 1440, "A"), -12), (day(8), 0),
            (charge(1, 1, 1, 10080, "A"), [6, 2, 0, 0]), (charge(1, 2, 0, 10080, "A"), [7, 2, 0, 0]),
            (charge(1, 2, 1, 10080, "A"), -12), (day(9), 0), (charge(1, 2, 1, 10080, "A"), [8, 2, 0, 0]),
            (when(), [9, 4, 0, 0, 9, 8]),
        ])

    def test_work_behind_the_last_day_is_not_charged(self):
        self.assert_line([
            (begin(LAST_DAY), 0), (account("A"), 1), (price(1, LAST_DAY, 1439, 2), [0, 2, 0, 0]),
            (charge(1, LAST_DAY, 1439, 2, "A"), -12), (charge(1, LAST_DAY, 1439, 10080, "A"), -12),
            (charge(1, LAST_DAY, 1439, 1, "A"), [1, 2, 0, 11999]),
        ])

    def test_order_of_refusals(self):
        house = self.house_after([begin(5, 2, 1), account("A"), charge(1, 3, 0, 0, "A")])
        for work in ((0, 9, 0, 0), (37, 9, 0, 0), (1, 0, 0, 0), (1, LAST_DAY + 1, 0, 0), (1, 9, -1, 0), (1, 9, 1440, 0),
                     (1, 9, 0, -1), (1, 9, 0, 10081)):
            self.assert_refused(house, charge(*work, "a", (-1,)), -1)
            self.assert_refused(house, charge(*work, "A", NO_UNITS), -1)
        for code, units in (("a", (-1,) * 4), ("", NO_UNITS), ("A", (-1,) * 3), ("X", (0,) * 5), ("a", ()), ("X", ())):
            self.assert_refused(house, charge(1, 9, 0, 0, code, units), -2)
        self.assert_refused(house, charge(1, 9, 0, 0, "X", (0, 0, 0, -1)), -1)
        self.assert_refused(house, charge(1, 5, 0, 0, "X", (MOST_UNITS + 1, 0, 0, 0)), -1)
        self.assert_refused(house, charge(1, 6, 0, 0, "X"), -12)
        self.assert_refused(house, charge(1, 6, 0, 0, "A"), -12)
        self.assert_refused(house, charge(1, 5, 0, 0, "X"), -4)
        self.assert_refused(house, charge(1, 5, 0, 0, "A"), -8)

    def test_what_is_no_code(self):
        house = self.house_after([account("A")])
        for text in NO_CODES:
            self.assert_refused(house, charge(1, 1, 0, 0, text), -2)
            self.assert_refused(house, overhead(1, text), -2)
            self.assert_refused(house, statement(0, 1, 1, text), -2)

    def test_neither_budgets_nor_shut_accounts_matter(self):
        self.assert_line(START + [
            (budget(5, "A"), 0), (account("B", "A"), 2), (shut("A"), 0), (shut("B"), 0), (cost(6, "A"), [1, 2, 6, 0]),
            (cost(9, "B"), [2, 2, 9, 0]), (admit(0, "B"), -6), (spent(0, "A"), [0, 3, 6, 15, 0]),
        ])


class MonthsOfCharges(LineTest):
    def test_open_months(self):
        self.assert_line(START + [
            (day(91), 0), (cost(1, "A", 1), [1, 2, 1, 0]), (cost(2, "A", 31), [2, 2, 2, 0]),
            (cost(3, "A", 32), [3, 2, 3, 1]), (cost(4, "A", 59), [4, 2, 4, 1]), (cost(5, "A", 60), [5, 2, 5, 2]),
            (cost(6, "A", 91), [6, 2, 6, 3]),
        ])

    def test_closed_months(self):
        self.assert_line(START + [
            (day(91), 0), (month(), [0, 2, 0, 0]), (cost(1, "A", 31), [1, 2, 1, 1]), (cost(2, "A", 32), [2, 2, 2, 1]),
            (cost(3, "A", 60), [3, 2, 3, 2]), (month(), [1, 2, 1, 3]), (cost(4, "A", 1), [4, 2, 4, 2]),
            (cost(5, "A", 59), [5, 2, 5, 2]), (month(), [1, 2, 2, 12]), (cost(6, "A", 90), [6, 2, 6, 3]),
            (cost(7, "A", 91), [7, 2, 7, 3]), (month(), -6), (cost(8, "A", 1), [8, 2, 8, 3]),
        ])

    def test_months_closed_from_the_beginning(self):
        self.assert_line([
            (begin(60), 0), (account("A"), 1), (UNIT_RATE, 1), (cost(1, "A", 1), [1, 2, 1, 2]),
            (cost(2, "A", 59), [2, 2, 2, 2]), (cost(3, "A", 60), [3, 2, 3, 2]), (total(0), [0, 4, 0, 0, 0, 0]),
            (total(2), [3, 4, 6, 0, 0, 0]),
        ])

    def test_the_day_on_which_the_work_ends_counts(self):
        self.assert_line([
            (begin(1), 0), (account("A"), 1), (day(40), 0), (charge(1, 31, 1439, 1, "A"), [1, 2, 0, 0]),
            (charge(1, 31, 1439, 2, "A"), [2, 2, 0, 1]), (charge(1, 31, 1439, 0, "A"), [3, 2, 0, 0]),
            (charge(1, 31, 0, 1440, "A"), [4, 2, 0, 0]), (charge(1, 31, 0, 1441, "A"), [5, 2, 0, 1]),
        ])

    def test_prices_are_of_the_works_days_in_a_closed_month_too(self):
        self.assert_line([
            (account("A"), 1), (rate(2, 0, 0, 1, 1000), 1), (rate(2, 0, 0, 32, 5000), 2), (day(32), 0),
            (month(), [0, 2, 0, 0]), (cost(2, "A", 31), [1, 2, 2, 1]), (cost(2, "A", 32), [2, 2, 10, 1]),
        ])


class LastDayChargedFor(LineTest):
    def test_it_is_the_latest_end(self):
        self.assert_line([
            (account("A"), 1), (day(30), 0), (when(), [30, 4, 0, 0, 0, 0]), (charge(1, 10, 0, 0, "A"), [1, 2, 0, 0]),
            (when(), [30, 4, 0, 0, 10, 1]), (charge(1, 5, 0, 10, "A"), [2, 2, 0, 0]), (when(), [30, 4, 0, 0, 10, 2]),
            (charge(1, 10, 1439, 1, "A"), [3, 2, 0, 0]), (when(), [30, 4, 0, 0, 10, 3]),
            (charge(1, 10, 1439, 2, "A"), [4, 2, 0, 0]), (when(), [30, 4, 0, 0, 11, 4]),
            (charge(1, 5, 0, 10080, "A"), [5, 2, 0, 0]), (when(), [30, 4, 0, 0, 11, 5]),
            (charge(1, 5, 1, 10080, "A"), [6, 2, 0, 0]), (when(), [30, 4, 0, 0, 12, 6]),
            (charge(1, 31, 0, 0, "A"), -12), (charge(1, 30, 0, 0, "X"), -4), (when(), [30, 4, 0, 0, 12, 6]),
        ])

    def test_prime_and_rate_by_it(self):
        self.assert_line([
            (account("A"), 1), (day(30), 0), (prime(1, 0, 10), 1), (rate(1, 1, 0, 1, 1000), 1),
            (charge(1, 10, 0, 11, "A"), [1, 2, 10, 0]), (prime(10, 0, 1), -12), (prime(1, 0, 1), -12),
            (prime(9, 0, 1), -12), (rate(1, 1, 0, 10, 1), -12), (rate(1, 1, 0, 1, 1), -12), (rate(5, 0, 36, 9, 1), -12),
            (prime(10, 1, 0), -1), (rate(1, 0, 0, 10, 1), -1), (rateof(1, 1, 0, 10), 1000),
            (price(1, 10, 0, 11), [0, 2, 10, 10000]), (prime(11, 0, 1), 2), (rate(1, 1, 0, 11, 2000), 2),
            (price(1, 10, 0, 11), [0, 2, 10, 10000]), (price(1, 11, 0, 11), [0, 2, 2, 2000]), (prime(11, 0, 2), 2),
            (rate(1, 1, 0, 11, 3000), 2), (price(1, 11, 0, 11), [0, 2, 6, 6000]),
            (charge(1, 10, 1439, 2, "A"), [2, 2, 3, 0]), (prime(11, 0, 3), -12), (rate(1, 1, 0, 11, 0), -12),
            (entry(1), [1] + rows("A", [0, 10], [1, 10, 0, 11, 0, 0, 0, 0])), (begin(5), 0), (prime(1, 0, 1), 1),
            (rate(1, 1, 0, 1, 1), 1),
        ])

    def test_order_of_prime_and_rate(self):
        primes = [(prime(number, 0, 9), number - 10) for number in range(11, 31)]
        rates = [(rate(2, 0, 1, number, 5), number - 10) for number in range(11, 111)]
        self.assert_line(primes + rates + [
            (account("A"), 1), (day(200), 0), (charge(1, 20, 0, 0, "A"), [1, 2, 0, 0]), (prime(20, 0, 1), -12),
            (prime(1, 0, 1), -12), (prime(20, 1, 0), -1), (prime(31, 0, 1), -8), (prime(21, 0, 1), 20),
            (rate(2, 0, 1, 20, 1), -12), (rate(3, 0, 1, 1, 1), -12), (rate(2, 0, 1, 20, -1), -1),
            (rate(3, 0, 1, 21, 1), -8), (rate(2, 0, 1, 21, 1), 100), (rateof(2, 0, 1, 20), 5), (rateof(2, 0, 1, 21), 1),
        ])

    def test_credits_and_overheads_do_not_count(self):
        self.assert_line(START + [
            (cost(5, "A", 1), [1, 2, 5, 0]), (day(30), 0), (credit(1, 2), [2, 1, 3]), (overhead(9, "A"), 3),
            (when(), [30, 4, 0, 0, 1, 3]), (prime(2, 0, 1), 1), (rate(1, 1, 1, 2, 1), 2), (rate(1, 1, 1, 1, 1), -12),
        ])


class Caps(LineTest):
    def test_each_kind_of_entry(self):
        self.assert_line([
            (begin(1, 5, 3), 0), (account("A"), 1), (UNIT_RATE, 1), (cost(5, "A"), [1, 2, 5, 0]),
            (credit(1, 1), [2, 1, 4]), (overhead(1, "A"), 3), (cost(5, "A"), -8), (credit(1, 1), -8),
            (overhead(1, "A"), -8),
            (when(), [1, 4, 0, 0, 1, 3]), (spent(0, "A"), [0, 3, 4, 4, 1]), (entry(3), [3] + rows("A", [0, 1], [])),
            (entry(4), -4), (total(0), [3, 4, 4, 1, 0, 0]),
        ])

    def test_one_entry(self):
        self.assert_line([
            (begin(1, 1, 1), 0), (account("A"), 1), (overhead(1, "A"), 1), (overhead(1, "A"), -8),
            (charge(1, 1, 0, 0, "A"), -8), (begin(1, 1, 1), 0), (account("A"), 1),
            (charge(1, 1, 0, 0, "A"), [1, 2, 0, 0]), (charge(1, 1, 0, 0, "A"), -8),
        ])

    def test_a_full_cap_on_the_last_day(self):
        house = self.house_after([begin(40, 1, 1), account("A"), UNIT_RATE, cost(7, "A", 20)])
        self.assert_refused(house, cost(7, "A", 30), -8)
        self.assertEqual(house.last_day_charged, 20)

    def test_five_hundred_entries(self):
        house = self.house_after([account("A"), UNIT_RATE] + [cost(1, "A")] * 498 + [credit(498, 1)])
        self.assert_answer(house, overhead(9, "A"), [500])
        self.assert_answer(house, entry(500), [3] + rows("A", [0, 9], []))
        self.assert_answer(house, statement(0, 500, 100, "A"), [1, 2, 500, 9])
        hundred = [number for place in range(401, 499) for number in (place, 1)] + [499, -1, 500, 9]
        self.assert_answer(house, statement(0, 401, 100, "A"), [100] + row(hundred))
        self.assert_refused(house, overhead(9, "A"), -8)
        self.assert_refused(house, credit(1, 1), -8)
        self.assert_refused(house, credit(500, 1), -6)
        self.assert_refused(house, credit(498, 1), -13)
        self.assert_refused(house, cost(1, "A"), -8)


class Credit(LineTest):
    def test_just_what_is_left_and_one_more(self):
        self.assert_line(START + [
            (cost(10, "A"), [1, 2, 10, 0]), (credit(1, 11), -13), (credit(1, 10), [2, 1, 0]), (credit(1, 1), -13),
            (entry(2), [2] + rows("A", [0, -10], [1])), (spent(0, "A"), [0, 3, 0, 0, 0]),
        ])

    def test_several_of_one_charge(self):
        self.assert_line(START + [
            (cost(10, "A"), [1, 2, 10, 0]), (cost(20, "A"), [2, 2, 20, 0]), (credit(1, 3), [3, 1, 7]),
            (credit(2, 15), [4, 1, 5]), (credit(1, 8), -13), (credit(1, 4), [5, 1, 3]), (credit(2, 6), -13),
            (credit(1, 4), -13), (credit(1, 3), [6, 1, 0]), (credit(2, 5), [7, 1, 0]), (credit(1, 1), -13),
            (credit(2, 1), -13), (entry(6), [2] + rows("A", [0, -3], [1])), (entry(7), [2] + rows("A", [0, -5], [2])),
            (statement(0, 1, 100, "A"), [7, 14, 1, 10, 2, 20, 3, -3, 4, -15, 5, -4, 6, -3, 7, -5]),
        ])

    def test_of_a_charge_of_0(self):
        self.assert_line(START + [(cost(0, "A"), [1, 2, 0, 0]), (credit(1, 1), -13)])

    def test_of_what_is_no_charge(self):
        self.assert_line(START + [
            (cost(10, "A"), [1, 2, 10, 0]), (credit(1, 5), [2, 1, 5]), (overhead(9, "A"), 3), (credit(2, 1), -6),
            (credit(3, 1), -6), (credit(4, 1), -4), (credit(500, 1), -4), (credit(2, MOST), -6),
        ])

    def test_ends_of_the_ranges(self):
        self.assert_line(START + [
            (cost(10, "A"), [1, 2, 10, 0]), (credit(0, 1), -1), (credit(-1, 1), -1), (credit(501, 1), -1),
            (credit(500, 1), -4), (credit(1, 0), -1), (credit(1, -1), -1), (credit(1, MOST + 1), -1),
            (credit(1, MOST), -13), (credit(LEAST, 1), -1), (credit(GREATEST, 1), -1), (credit(1, LEAST), -1),
            (credit(1, GREATEST), -1), (credit(1, 1), [2, 1, 9]),
        ])

    def test_the_greatest(self):
        exact = MOST_UNITS * GREATEST_RATE
        self.assert_line([
            (account("A"), 1), (rate(2, 0, 0, 1, GREATEST_RATE), 1), (cost(MOST_UNITS, "A"), [1, 2, exact // 1000, 0]),
            (credit(1, MOST), [2, 1, exact // 1000 - MOST]), (credit(1, MOST), [3, 1, exact // 1000 - 2 * MOST]),
            (cost(10**6, "A"), [4, 2, MOST, 0]), (credit(4, MOST), [5, 1, 0]),
        ])

    def test_its_account_and_todays_month(self):
        self.assert_line([
            (account("A"), 1), (account("BB", "A"), 2), (UNIT_RATE, 1), (cost(10, "BB"), [1, 2, 10, 0]), (day(59), 0),
            (credit(1, 4), [2, 1, 6]), (entry(2), [2] + rows("BB", [1, -4], [1])), (spent(0, "BB"), [0, 3, 10, 10, 0]),
            (spent(1, "BB"), [0, 3, -4, -4, 0]), (spent(1, "A"), [0, 3, 0, -4, 0]), (month(), [1, 2, 0, 10]),
            (credit(1, 7), -13), (credit(1, 6), [3, 1, 0]), (entry(3), [2] + rows("BB", [1, -6], [1])),
            (entry(1), [1] + rows("BB", [0, 10], [1, 1, 0, 0, 10, 0, 0, 0])), (day(60), 0), (month(), [1, 2, 1, -10]),
        ])

    def test_of_a_shut_account(self):
        self.assert_line(START + [(cost(10, "A"), [1, 2, 10, 0]), (shut("A"), 0), (credit(1, 4), [2, 1, 6])])

    def test_order_of_refusals(self):
        house = self.house_after([begin(1, 1, 3), account("A"), UNIT_RATE, cost(5, "A"), overhead(1, "A")])
        self.assert_refused(house, credit(501, 0), -1)
        self.assert_refused(house, credit(501, 5), -1)
        self.assert_refused(house, credit(4, 0), -1)
        self.assert_refused(house, credit(2, 0), -1)
        self.assert_refused(house, credit(1, 0), -1)
        self.assert_refused(house, credit(3, 6), -4)
        self.assert_refused(house, credit(2, 6), -6)
        self.assert_refused(house, credit(1, 6), -13)
        self.assert_answer(house, credit(1, 1), [3, 1, 4])
        self.assert_refused(house, credit(4, 5), -4)
        self.assert_refused(house, credit(3, 5), -6)
        self.assert_refused(house, credit(1, 5), -13)
        self.assert_refused(house, credit(1, 4), -8)


class Overhead(LineTest):
    def test_ordinary(self):
        self.assert_line([
            (account("A"), 1), (account("B9", "A"), 2), (overhead(7, "B9"), 1), (day(40), 0), (overhead(8, "B9"), 2),
            (overhead(9, "A"), 3), (overhead(1, "B9"), 4), (entry(1), [3] + rows("B9", [0, 7], [])),
            (entry(2), [3] + rows("B9", [1, 8], [])), (entry(3), [3] + rows("A", [1, 9], [])),
            (spent(0, "B9"), [0, 3, 0, 0, 7]), (spent(1, "B9"), [0, 3, 0, 0, 9]), (spent(1, "A"), [0, 3, 0, 0, 9]),
            (total(1), [3, 4, 0, 18, 0, 0]),
        ])

    def test_ends_of_the_range(self):
        self.assert_line([
            (account("A"), 1), (overhead(0, "A"), -1), (overhead(1, "A"), 1), (overhead(MOST, "A"), 2),
            (overhead(MOST + 1, "A"), -1), (overhead(-1, "A"), -1), (overhead(LEAST, "A"), -1),
            (overhead(GREATEST, "A"), -1), (spent(0, "A"), [0, 3, 0, 0, MOST + 1]),
        ])

    def test_order_of_refusals(self):
        house = self.house_after([begin(1, 1, 1), account("A"), overhead(5, "A")])
        self.assert_refused(house, overhead(0, "a"), -1)
        self.assert_refused(house, overhead(0, "X"), -1)
        self.assert_refused(house, overhead(0, "A"), -1)
        self.assert_refused(house, overhead(1, "a"), -2)
        self.assert_refused(house, overhead(1, ""), -2)
        self.assert_refused(house, overhead(1, "X"), -4)
        self.assert_refused(house, overhead(1, "A"), -8)

    def test_of_a_shut_account(self):
        self.assert_line([(account("A"), 1), (shut("A"), 0), (overhead(5, "A"), 1)])


class EntryCall(LineTest):
    def test_refusals(self):
        self.assert_line([
            (entry(0), -1), (entry(1), -4), (entry(500), -4), (entry(501), -1), (entry(-1), -1), (entry(LEAST), -1),
            (entry(GREATEST), -1), (account("A"), 1), (overhead(1, "A"), 1), (entry(1), [3] + rows("A", [0, 1], [])),
            (entry(2), -4), (begin(1), 0), (entry(1), -4),
        ])

    def test_it_stays_as_it_came(self):
        told = [1] + rows("B", [0, 6], [2, 5, 6, 7, 6, 0, 0, 1])
        self.assert_line([(call, place + 1) for place, call in enumerate(chain("AB"))] + [
            (UNIT_RATE, 1), (day(5), 0), (charge(2, 5, 6, 7, "B", (6, 0, 0, 1)), [1, 2, 6, 0]), (entry(1), told),
            (move("B"), 0), (shut("B"), 0), (day(60), 0), (rate(2, 0, 2, 6, 9), 2), (credit(1, 6), [2, 1, 0]),
            (month(), [1, 2, 0, 6]), (month(), [0, 2, 1, 0]), (entry(1), told),
            (entry(2), [2] + rows("B", [2, -6], [1])),
        ])

    def test_it_changes_nothing(self):
        house = self.house_after([account("A"), UNIT_RATE, cost(5, "A"), credit(1, 2), overhead(3, "A")])
        before = state(house)
        self.assert_answer(house, entry(1), [1] + rows("A", [0, 5], [1, 1, 0, 0, 5, 0, 0, 0]))
        self.assert_answer(house, entry(2), [2] + rows("A", [0, -2], [1]))
        self.assert_answer(house, entry(3), [3] + rows("A", [0, 3], []))
        self.assert_answer(house, statement(0, 1, 100, "A"), [3, 6, 1, 5, 2, -2, 3, 3])
        self.assertEqual(state(house), before)


class Statement(LineTest):
    LINE = [
        (account("A"), 1), (account("B", "A"), 2), (UNIT_RATE, 1), (cost(5, "A"), [1, 2, 5, 0]),
        (cost(6, "B"), [2, 2, 6, 0]), (overhead(7, "A"), 3), (credit(1, 2), [4, 1, 3]), (day(32), 0),
        (cost(8, "A", 32), [5, 2, 8, 1]), (cost(9, "A", 31), [6, 2, 9, 0]), (credit(1, 3), [7, 1, 0]),
    ]

    def test_the_accounts_entries_of_the_month(self):
        self.assert_line(self.LINE + [
            (statement(0, 1, 100, "A"), [4, 8, 1, 5, 3, 7, 4, -2, 6, 9]), (statement(0, 1, 100, "B"), [1, 2, 2, 6]),
            (statement(1, 1, 100, "A"), [2, 4, 5, 8, 7, -3]), (statement(1, 1, 100, "B"), [0, 0]),
            (statement(2, 1, 100, "A"), [0, 0]), (statement(11999, 1, 100, "A"), [0, 0]),
        ])

    def test_from_and_most(self):
        self.assert_line(self.LINE + [
            (statement(0, 2, 100, "A"), [3, 6, 3, 7, 4, -2, 6, 9]),
            (statement(0, 3, 100, "A"), [3, 6, 3, 7, 4, -2, 6, 9]),
            (statement(0, 4, 100, "A"), [2, 4, 4, -2, 6, 9]), (statement(0, 6, 100, "A"), [1, 2, 6, 9]),
            (statement(0, 7, 100, "A"), [0, 0]), (statement(0, 500, 100, "A"), [0, 0]),
            (statement(0, 1, 1, "A"), [1, 2, 1, 5]), (statement(0, 1, 3, "A"), [3, 6, 1, 5, 3, 7, 4, -2]),
            (statement(0, 1, 4, "A"), [4, 8, 1, 5, 3, 7, 4, -2, 6, 9]), (statement(0, 2, 2, "A"), [2, 4, 3, 7, 4, -2]),
            (statement(0, 2, 1, "B"), [1, 2, 2, 6]), (statement(0, 3, 1, "B"), [0, 0]),
        ])

    def test_a_hundred_and_more(self):
        steps = START + [(cost(number, "A"), [number, 2, number, 0]) for number in range(1, 131)]
        first = [number for place in range(1, 101) for number in (place, place)]
        last = [number for place in range(101, 131) for number in (place, place)]
        self.assert_line(steps + [
            (statement(0, 1, 100, "A"), [100] + row(first)), (statement(0, 101, 100, "A"), [30] + row(last)),
            (statement(0, 1, 99, "A"), [99] + row(first[:-2])), (statement(0, 130, 100, "A"), [1, 2, 130, 130]),
        ])

    def test_nothing_to_tell(self):
        self.assert_line([
            (account("A"), 1), (statement(0, 1, 1, "A"), [0, 0]), (statement(11999, 500, 100, "A"), [0, 0]),
        ])

    def test_ends_of_the_ranges(self):
        self.assert_line([
            (account("A"), 1), (statement(-1, 1, 1, "A"), -1), (statement(0, 1, 1, "A"), [0, 0]),
            (statement(11999, 1, 1, "A"), [0, 0]), (statement(12000, 1, 1, "A"), -1), (statement(0, 0, 1, "A"), -1),
            (statement(0, 500, 1, "A"), [0, 0]), (statement(0, 501, 1, "A"), -1), (statement(0, 1, 0, "A"), -1),
            (statement(0, 1, 100, "A"), [0, 0]), (statement(0, 1, 101, "A"), -1),
        ] + [
            (call, -1) for number in (LEAST, GREATEST)
            for call in (statement(number, 1, 1, "A"), statement(0, number, 1, "A"), statement(0, 1, number, "A"))
        ])

    def test_order_of_refusals(self):
        house = self.house_after([account("A")])
        for work in ((-1, 1, 1), (0, 0, 1), (0, 1, 0)):
            for code in ("a", "", "X", "A"):
                self.assert_refused(house, statement(*work, code), -1)
        self.assert_refused(house, statement(0, 1, 1, "a"), -2)
        self.assert_refused(house, statement(0, 1, 1, ""), -2)
        self.assert_refused(house, statement(0, 1, 1, "X"), -4)

    def test_a_closed_month(self):
        self.assert_line(self.LINE + [
            (month(), [2, 2, 0, 25]), (statement(0, 1, 100, "A"), [4, 8, 1, 5, 3, 7, 4, -2, 6, 9]),
            (cost(1, "A", 1), [8, 2, 1, 1]), (statement(0, 1, 100, "A"), [4, 8, 1, 5, 3, 7, 4, -2, 6, 9]),
            (statement(1, 8, 1, "A"), [1, 2, 8, 1]), (date(32), [1, 4, 1900, 2, 1, 4]),
        ])


if __name__ == "__main__":
    unittest.main()
