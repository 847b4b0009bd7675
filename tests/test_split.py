"""split, and how an amount is shared out."""

import random
import unittest
from fractions import Fraction

from tests.helper import GREATEST, LEAST, MOST, MOST_UNITS, LineTest, row, split, state


def plain_shares(amount, weights):
    """Each place of the amount asked one by one, with exact quotients."""
    quotients = [Fraction(amount * weight, sum(weights)) for weight in weights]
    shares = [int(quotient) for quotient in quotients]
    remainders = [quotient - share for quotient, share in zip(quotients, shares)]
    for each in range(amount - sum(shares)):
        chosen = remainders.index(max(remainders))
        shares[chosen] += 1
        remainders[chosen] = -1
    return shares


class Split(LineTest):
    def assert_split(self, amount, weights, shares):
        self.assert_line([(split(amount, weights), [len(weights)] + row(shares))])

    def test_ordinary(self):
        self.assert_line([
            (split(60, (1, 2, 3)), [3, 3, 10, 20, 30]), (split(100, (1, 1, 1)), [3, 3, 34, 33, 33]),
            (split(7, (5, 3)), [2, 2, 4, 3]), (split(8, (5, 3)), [2, 2, 5, 3]), (split(9, (5, 3)), [2, 2, 6, 3]),
            (split(1, (1, 2, 3)), [3, 3, 0, 0, 1]), (split(2, (1, 2, 3)), [3, 3, 0, 1, 1]),
            (split(3, (1, 2, 3)), [3, 3, 1, 1, 1]), (split(4, (1, 2, 3)), [3, 3, 1, 1, 2]),
        ])

    def test_the_greatest_remainders_come_first(self):
        # 10 by 3, 4, 6 of 13: remainders 4, 1, 8; then 4 by the same: 12, 3, 11.
        self.assert_split(10, (3, 4, 6), (2, 3, 5))
        self.assert_split(4, (3, 4, 6), (1, 1, 2))
        self.assert_split(10, (6, 4, 3), (5, 3, 2))

    def test_the_same_remainders(self):
        self.assert_split(1, (1, 1, 1, 1), (1, 0, 0, 0))
        self.assert_split(2, (1, 1, 1, 1), (1, 1, 0, 0))
        self.assert_split(3, (1, 1, 1, 1), (1, 1, 1, 0))
        self.assert_split(5, (1, 1, 1, 1), (2, 1, 1, 1))
        # Remainders 5, 5, 0, 5, 5 of 10, of different weights.
        self.assert_split(5, (1, 3, 2, 3, 1), (1, 2, 1, 1, 0))
        self.assert_split(15, (1, 3, 2, 3, 1), (2, 5, 3, 4, 1))

    def test_an_amount_of_0(self):
        self.assert_split(0, (1, 2, 3), (0, 0, 0))
        self.assert_split(0, (0, 1), (0, 0))

    def test_some_weights_of_0(self):
        self.assert_split(10, (0, 1, 0, 2, 0), (0, 3, 0, 7, 0))
        self.assert_split(MOST, (0, 0, 1), (0, 0, MOST))
        self.assert_split(1, (0, 1, 1, 1), (0, 1, 0, 0))
        self.assert_split(5, (0, 1, 1, 1), (0, 2, 2, 1))

    def test_one_weight(self):
        self.assert_split(10, (1,), (10,))
        self.assert_split(MOST, (MOST_UNITS,), (MOST,))
        self.assert_split(0, (7,), (0,))

    def test_how_many_weights(self):
        self.assert_line([
            (split(5, ()), -2), (split(5, (1,)), [1, 1, 5]), (split(51, [1] * 50), [50] + row([2] + [1] * 49)),
            (split(99, [1] * 50), [50] + row([2] * 49 + [1])), (split(5, [1] * 51), -2), (split(5, [1] * 60), -2),
            (split(5, (1, 1)), [2, 2, 3, 2]),
        ])

    def test_ends_of_the_ranges(self):
        self.assert_line([
            (split(-1, (1,)), -1), (split(0, (1,)), [1, 1, 0]), (split(MOST, (1,)), [1, 1, MOST]),
            (split(MOST + 1, (1,)), -1), (split(LEAST, (1,)), -1), (split(GREATEST, (1,)), -1),
            (split(5, (0, 1)), [2, 2, 0, 5]), (split(5, (-1, 1)), -1), (split(5, (1, -1)), -1),
            (split(5, (MOST_UNITS, MOST_UNITS)), [2, 2, 3, 2]), (split(5, (MOST_UNITS + 1, 1)), -1),
            (split(5, (1, MOST_UNITS + 1)), -1), (split(5, (LEAST, 1)), -1), (split(5, (1, GREATEST)), -1),
        ])

    def test_all_weights_of_0(self):
        self.assert_line([
            (split(5, (0,)), -6), (split(0, (0,)), -6), (split(5, [0] * 50), -6), (split(5, [0] * 51), -2),
            (split(5, [0] * 49 + [1]), [50] + row([0] * 49 + [5])),
        ])

    def test_order_of_refusals(self):
        house = self.house_after([])
        for amount in (-1, MOST + 1):
            for weights in ((), [1] * 51, (-1,), (0,), (1,)):
                self.assert_refused(house, split(amount, weights), -1)
        for weights in ((), [1] * 51, [-1] * 51, [0] * 51, [MOST_UNITS + 1] * 60):
            self.assert_refused(house, split(5, weights), -2)
        for weights in ((-1,), (0, -1), (0, 0, MOST_UNITS + 1), (-1, 1)):
            self.assert_refused(house, split(5, weights), -1)
        self.assert_refused(house, split(5, (0, 0)), -6)
        before = state(house)
        self.assert_answer(house, split(5, (1, 1)), [2, 2, 3, 2])
        self.assertEqual(state(house), before)

    def test_great_amounts_to_the_last_one(self):
        self.assert_split(MOST, (MOST_UNITS, MOST_UNITS - 1), (500000000250000, 499999999750000))
        self.assert_split(MOST, [MOST_UNITS] * 3, (333333333333334, 333333333333333, 333333333333333))

    def test_many_against_a_plain_search(self):
        source = random.Random(2)
        for line in range(60):
            steps = []
            for step in range(10):
                most = source.choice((1, 2, 9, MOST_UNITS))
                weights = [source.randint(0, most) for place in range(source.choice((1, 2, 3, 7, 50)))]
                weights[source.randrange(len(weights))] = source.randint(1, most)
                amount = source.choice((0, 1, len(weights) - 1, source.randint(0, 200), source.randint(0, MOST)))
                steps.append((split(amount, weights), [len(weights)] + row(plain_shares(amount, weights))))
            self.assert_line(steps)


if __name__ == "__main__":
    unittest.main()
