"""prime, rate, rateof, tier."""

import random
import unittest

from tests.helper import (
    GREATEST, GREATEST_RATE, LAST_DAY, LEAST, MOST, LineTest, begin, prime, rate, rateof, state, tier,
)


class Prime(LineTest):
    def test_ends_of_the_ranges(self):
        self.assert_line([
            (prime(0, 0, 0), -1), (prime(1, 0, 0), 1), (prime(LAST_DAY, 0, 0), 2), (prime(LAST_DAY + 1, 0, 0), -1),
            (prime(2, -1, 0), -1), (prime(2, 0, 1440), 3), (prime(3, 1440, 1440), 4), (prime(4, 1441, 1441), -1),
            (prime(4, 0, 1441), -1), (prime(4, 600, 599), -1), (prime(4, 600, 600), 5), (prime(5, 600, 601), 6),
            (prime(6, 0, -1), -1), (prime(6, 1440, 1439), -1), (prime(6, 1440, 1441), -1),
            (prime(LEAST, LEAST, LEAST), -1), (prime(GREATEST, GREATEST, GREATEST), -1),
        ])

    def test_the_same_day_is_replaced(self):
        house = self.house_after([prime(5, 1, 2), prime(6, 3, 4)])
        self.assert_answer(house, prime(5, 10, 20), [2])
        self.assertEqual(state(house.prime_hours), {5: [10, 20], 6: [3, 4]})

    def test_at_most_twenty(self):
        steps = [(prime(number, 0, number), number) for number in range(1, 21)]
        steps += [(prime(21, 0, 1), -8), (prime(20, 0, 1), 20), (prime(1, 7, 8), 20), (prime(22, 0, 1), -8)]
        self.assert_line(steps)
        house = self.house_after([prime(number, 0, number) for number in range(1, 21)])
        self.assert_refused(house, prime(21, 0, 1), -8)
        self.assert_refused(house, prime(21, 2, 1), -1)
        self.assert_answer(house, prime(20, 5, 6), [20])
        self.assertEqual(house.prime_hours[20], (5, 6))

    def test_days_charged_for(self):
        house = self.house_after([prime(number, 0, 9) for number in range(11, 31)])
        house.last_day_charged = 20
        self.assert_refused(house, prime(20, 0, 1), -12)
        self.assert_refused(house, prime(1, 0, 1), -12)
        self.assert_refused(house, prime(20, 1, 0), -1)
        self.assert_refused(house, prime(31, 0, 1), -8)
        self.assert_answer(house, prime(21, 0, 1), [20])

    def test_it_does_not_ask_for_today(self):
        self.assert_line([(begin(500), 0), (prime(1, 0, 1), 1), (prime(499, 0, 1), 2), (prime(501, 0, 1), 3)])


class Rate(LineTest):
    def test_ends_of_the_ranges(self):
        self.assert_line([
            (rate(0, 0, 1, 1, 1), -1), (rate(6, 0, 1, 1, 1), -1), (rate(5, 0, 1, 1, 1), 1), (rate(2, 0, 1, 1, 1), 2),
            (rate(1, 0, 1, 1, 1), -1), (rate(1, 1, 1, 1, 1), 3), (rate(1, 3, 1, 1, 1), 4), (rate(1, 4, 1, 1, 1), -1),
            (rate(1, -1, 1, 1, 1), -1), (rate(2, 1, 1, 1, 1), -1), (rate(2, -1, 1, 1, 1), -1),
            (rate(5, 3, 1, 1, 1), -1), (rate(0, 1, 1, 1, 1), -1),
            (rate(1, 1, -1, 1, 1), -1), (rate(1, 1, 0, 1, 1), 5), (rate(1, 1, 36, 1, 1), 6),
            (rate(1, 1, 37, 1, 1), -1), (rate(1, 1, 1, 0, 1), -1), (rate(1, 1, 1, LAST_DAY, 1), 7),
            (rate(1, 1, 1, LAST_DAY + 1, 1), -1), (rate(3, 0, 1, 1, 0), 8), (rate(4, 0, 1, 1, GREATEST_RATE), 9),
            (rate(4, 0, 1, 2, -1), -1), (rate(4, 0, 1, 2, GREATEST_RATE + 1), -1),
            (rateof(4, 0, 1, 1), GREATEST_RATE), (rateof(4, 0, 1, 2), GREATEST_RATE),
            (rate(LEAST, LEAST, LEAST, LEAST, LEAST), -1),
            (rate(GREATEST, GREATEST, GREATEST, GREATEST, GREATEST), -1),
        ])

    def test_the_same_place_is_replaced(self):
        self.assert_line([
            (rate(1, 1, 1, 1, 10), 1), (rate(1, 1, 1, 1, 20), 1), (rateof(1, 1, 1, 1), 20), (rate(1, 2, 1, 1, 30), 2),
            (rate(1, 1, 2, 1, 40), 3), (rate(1, 1, 1, 2, 50), 4), (rate(2, 0, 1, 1, 60), 5), (rateof(1, 1, 1, 1), 20),
            (rateof(1, 2, 1, 1), 30), (rateof(1, 1, 2, 1), 40), (rateof(1, 1, 1, 2), 50), (rateof(2, 0, 1, 1), 60),
        ])

    def test_at_most_a_hundred(self):
        steps = [(rate(2, 0, 1, number, number), number) for number in range(1, 101)]
        steps += [
            (rate(2, 0, 1, 101, 7), -8), (rateof(2, 0, 1, 101), 100), (rate(1, 1, 0, 1, 7), -8),
            (rate(2, 0, 1, 100, 8), 100), (rateof(2, 0, 1, 101), 8), (rate(2, 0, 1, 1, 9), 100),
            (rateof(2, 0, 1, 1), 9), (rate(3, 0, 1, 1, 9), -8), (rateof(3, 0, 1, 1), 0),
        ]
        self.assert_line(steps)
        house = self.house_after([call for call, answer in steps[:100]])
        self.assert_refused(house, rate(2, 0, 2, 100, 8), -8)
        self.assert_refused(house, rate(2, 0, 2, 0, 8), -1)

    def test_days_charged_for(self):
        house = self.house_after([rate(2, 0, 1, number, 5) for number in range(11, 111)])
        house.last_day_charged = 20
        self.assert_refused(house, rate(2, 0, 1, 20, 1), -12)
        self.assert_refused(house, rate(3, 0, 1, 1, 1), -12)
        self.assert_refused(house, rate(2, 0, 1, 20, -1), -1)
        self.assert_refused(house, rate(3, 0, 1, 21, 1), -8)
        self.assert_answer(house, rate(2, 0, 1, 21, 1), [100])
        self.assert_answer(house, rateof(2, 0, 1, 20), [5])

    def test_nothing_has_changed_behind_a_refusal(self):
        house = self.house_after([rate(1, 1, 1, 5, 10)])
        for call in (rate(1, 1, 1, 5, -1), rate(1, 0, 1, 5, 1), rate(1, 1, 37, 5, 1), rate(1, 1, 1, 0, 1)):
            self.assert_refused(house, call, -1)


class RateOf(LineTest):
    def test_ends_of_the_ranges(self):
        for kind, shift, grade, number, answer in (
            (1, 1, 0, 1, 0), (1, 3, 36, LAST_DAY, 0), (2, 0, 1, 1, 0), (5, 0, 1, 1, 0), (0, 0, 1, 1, -1),
            (0, 1, 1, 1, -1), (6, 0, 1, 1, -1), (1, 0, 1, 1, -1), (1, 4, 1, 1, -1), (2, 1, 1, 1, -1), (5, 3, 1, 1, -1),
            (2, -1, 1, 1, -1), (1, 1, -1, 1, -1), (1, 1, 37, 1, -1), (1, 1, 1, 0, -1), (1, 1, 1, LAST_DAY + 1, -1),
            (LEAST, LEAST, LEAST, LEAST, -1), (GREATEST, GREATEST, GREATEST, GREATEST, -1),
        ):
            self.assert_line([(rateof(kind, shift, grade, number), answer)])

    def test_days_before_on_and_behind(self):
        self.assert_line([
            (rate(1, 2, 7, 100, 11), 1), (rate(1, 2, 7, 200, 22), 2), (rate(1, 2, 7, 150, 33), 3),
            (rateof(1, 2, 7, 1), 0), (rateof(1, 2, 7, 99), 0), (rateof(1, 2, 7, 100), 11), (rateof(1, 2, 7, 149), 11),
            (rateof(1, 2, 7, 150), 33), (rateof(1, 2, 7, 199), 33), (rateof(1, 2, 7, 200), 22),
            (rateof(1, 2, 7, LAST_DAY), 22), (rateof(1, 1, 7, 200), 0), (rateof(1, 3, 7, 200), 0),
            (rateof(1, 2, 8, 200), 0), (rateof(1, 2, 0, 200), 0), (rateof(2, 0, 7, 200), 0),
        ])

    def test_class_0_stands_in(self):
        self.assert_line([
            (rate(3, 0, 0, 50, 5), 1), (rate(3, 0, 4, 100, 9), 2), (rate(3, 0, 0, 150, 6), 3),
            (rateof(3, 0, 4, 49), 0), (rateof(3, 0, 4, 50), 5), (rateof(3, 0, 4, 99), 5), (rateof(3, 0, 4, 100), 9),
            (rateof(3, 0, 4, 150), 9), (rateof(3, 0, 5, 100), 5), (rateof(3, 0, 5, 150), 6), (rateof(3, 0, 0, 49), 0),
            (rateof(3, 0, 0, 50), 5), (rateof(3, 0, 0, 150), 6),
        ])

    def test_a_rate_of_0_is_in_force(self):
        self.assert_line([
            (rate(3, 0, 0, 1, 5), 1), (rate(3, 0, 4, 10, 0), 2), (rateof(3, 0, 4, 9), 5), (rateof(3, 0, 4, 10), 0),
            (rate(3, 0, 4, 20, 8), 3), (rate(3, 0, 4, 30, 0), 4), (rateof(3, 0, 4, 29), 8), (rateof(3, 0, 4, 30), 0),
        ])

    def test_many_rates_against_a_plain_search(self):
        source = random.Random(1)
        for line in range(20):
            known, steps = {}, []
            for step in range(90):
                kind = source.randint(1, 3)
                place = (kind, source.randint(1, 3) if kind == 1 else 0, source.randint(0, 2), source.randint(1, 9))
                known[place] = source.randint(0, 3)
                steps.append((rate(*place, known[place]), len(known)))
                asked = place[:2] + (source.randint(0, 2), source.randint(1, 9))
                found = [
                    (grade > 0, since, value) for (kind, shift, grade, since), value in known.items()
                    if (kind, shift) == asked[:2] and grade in (asked[2], 0) and since <= asked[3]
                ]
                steps.append((rateof(*asked), max(found)[2] if found else 0))
            self.assert_line(steps)


class Tier(LineTest):
    def test_ends_of_the_ranges(self):
        self.assert_line([
            (tier(-1, 0), -1), (tier(0, 0), 1), (tier(MOST, 1000), 2), (tier(MOST + 1, 0), -1), (tier(1, -1), -1),
            (tier(1, 1001), -1), (tier(1, 0), 3), (tier(2, 1000), 4), (tier(LEAST, LEAST), -1),
            (tier(GREATEST, GREATEST), -1),
        ])

    def test_at_most_five(self):
        self.assert_line([
            (tier(10, 1), 1), (tier(20, 2), 2), (tier(10, 3), 2), (tier(30, 3), 3), (tier(40, 4), 4), (tier(50, 5), 5),
            (tier(60, 6), -8), (tier(50, 7), 5), (tier(10, 8), 5), (tier(0, 0), -8), (tier(60, 1001), -1),
        ])
        house = self.house_after([tier(number, number) for number in range(5)])
        self.assert_refused(house, tier(5, 5), -8)
        self.assert_refused(house, tier(4, 1001), -1)
        self.assert_answer(house, tier(4, 1000), [5])
        self.assertEqual(house.tiers, {0: 0, 1: 1, 2: 2, 3: 3, 4: 1000})

    def test_days_charged_for_are_not_asked(self):
        house = self.house_after([])
        house.last_day_charged = LAST_DAY
        self.assert_answer(house, tier(4, 1000), [1])


if __name__ == "__main__":
    unittest.main()
