"""How calls are handed in and how answers are told."""

import os
import unittest

import monthsclosed
from monthsclosed.accounts import answers
from monthsclosed.house import House
from tests.helper import (
    GREATEST, LEAST, MOST, LineTest, account, admit, begin, budget, charge, credit, date, day, dayof, entry, invoice,
    month, move, overhead, price, prime, rate, rateof, reopen, shut, spent, split, state, statement, tier, total, when,
)


class WholeLists(unittest.TestCase):
    def test_every_call_as_numbers(self):
        self.assertEqual(answers([0, 400, 3, 4]), [1, 0])
        self.assertEqual(answers([1, 7]), [1, 0])
        self.assertEqual(answers([2, 60]), [6, 2, 4, 1900, 3, 1, 4])
        self.assertEqual(answers([3, 1900, 3, 1]), [1, 60])
        self.assertEqual(answers([4, 5, 0, 1440]), [1, 1])
        self.assertEqual(answers([5, 1, 3, 36, 5, 77]), [1, 1])
        self.assertEqual(answers([6, 1, 3, 36, 5]), [1, 0])
        self.assertEqual(answers([7, 100, 50]), [1, 1])
        self.assertEqual(answers([8, 2, 65, 66, 0]), [1, 1])
        self.assertEqual(answers([9, 1, 65, 1, 66]), [1, -4])
        self.assertEqual(answers([10, 1, 65]), [1, -4])
        self.assertEqual(answers([11, 1, 65]), [1, -4])
        self.assertEqual(answers([12, 5, 1, 65]), [1, -4])
        self.assertEqual(answers([13, 5, 1, 65]), [1, -4])
        self.assertEqual(answers([14, 36, 5, 0, 10, 4, 1, 2, 3, 4]), [4, 0, 2, 0, 0])
        self.assertEqual(answers([15, 36, 1, 0, 10, 1, 65, 4, 1, 2, 3, 4]), [1, -4])
        self.assertEqual(answers([16, 1, 5]), [1, -4])
        self.assertEqual(answers([17, 5, 1, 65]), [1, -4])
        self.assertEqual(answers([18]), [1, -6])
        self.assertEqual(answers([19, 0, 1, 65]), [1, -4])
        self.assertEqual(answers([20, 0, 1, 65]), [1, -4])
        self.assertEqual(answers([21, 0]), [6, 0, 4, 0, 0, 0, 0])
        self.assertEqual(answers([22, 1]), [1, -4])
        self.assertEqual(answers([23, 0, 1, 100, 1, 65]), [1, -4])
        self.assertEqual(answers([24, 1, 65]), [1, -4])
        self.assertEqual(answers([24, 0]), [1, 0])
        self.assertEqual(answers([25, 1, 65]), [1, -4])
        self.assertEqual(answers([26, 10, 3, 1, 1, 2]), [5, 3, 3, 3, 2, 5])
        self.assertEqual(answers([27]), [6, 1, 4, 0, 0, 0, 0])

    def test_one_list_of_several_calls(self):
        calls = [
            0, 45000, 3, 5,
            2, 45000,
            5, 1, 1, 0, 45000, 2500,
            6, 1, 1, 9, 45000,
            8, 1, 65, 0,
            8, 2, 65, 48, 1, 65,
            12, 700, 1, 65,
            13, 700, 2, 65, 48,
            13, 701, 2, 65, 48,
            10, 1, 65,
            13, 0, 2, 65, 48,
            1, 44999,
        ]
        self.assertEqual(answers(calls), [
            1, 0,
            6, 1478, 4, 2023, 3, 16, 4,
            1, 1,
            1, 2500,
            1, 1,
            1, 2,
            1, 0,
            3, 1, 1, 700,
            1, -11,
            1, 0,
            1, -6,
            1, -1,
        ])

    def test_one_list_of_entries_months_and_listings(self):
        calls = [
            0, 31, 3, 9,
            5, 1, 2, 0, 1, 1500,
            5, 2, 0, 0, 31, 1000,
            8, 1, 65, 0,
            8, 2, 65, 48, 1, 65,
            8, 2, 65, 49, 1, 65,
            7, 10, 500,
            14, 1, 31, 1439, 3, 4, 0, 0, 0, 0,
            15, 1, 31, 1439, 1, 2, 65, 48, 4, 21, 0, 0, 7,
            15, 1, 31, 1439, 2, 2, 65, 48, 4, 0, 0, 0, 0,
            17, 9, 1, 65,
            16, 1, 3,
            22, 1,
            22, 2,
            22, 3,
            23, 0, 1, 100, 2, 65, 48,
            23, 0, 1, 100, 2, 65, 49,
            19, 0, 1, 65,
            24, 0,
            24, 1, 65,
            24, 2, 65, 49,
            25, 2, 65, 49,
            20, 0, 1, 65,
            1, 32,
            18,
            18,
            20, 0, 1, 65,
            20, 0, 2, 65, 48,
            21, 0,
            27,
            26, 7, 2, 1, 1,
        ]
        self.assertEqual(answers(calls), [
            1, 0,
            1, 1,
            1, 2,
            1, 1,
            1, 2,
            1, 3,
            1, 1,
            4, 0, 2, 4, 4500,
            4, 1, 2, 22, 0,
            1, -12,
            1, 2,
            3, 3, 1, 19,
            16, 1, 2, 65, 48, 2, 0, 22, 8, 1, 31, 1439, 1, 21, 0, 0, 7,
            7, 3, 1, 65, 2, 0, 9, 0,
            9, 2, 2, 65, 48, 2, 0, -3, 1, 1,
            6, 2, 4, 1, 22, 3, -3,
            2, 0, 0,
            5, 0, 3, 0, 19, 9,
            3, 1, 1, 65,
            7, 2, 2, 65, 48, 2, 65, 49,
            1, 0,
            6, 2, 2, 65, 49, 1, 65,
            1, -6,
            1, 0,
            4, 1, 2, 0, 24,
            1, -6,
            1, 0,
            6, 1, 4, 19, 4, 9, 24,
            6, 3, 4, 19, 9, 4, 24,
            6, 32, 4, 1, 1, 31, 3,
            4, 2, 2, 4, 3,
        ])

    def test_refusals_are_one_number_each(self):
        calls = [2, 0, 8, 0, 0, 12, -2, 0, 13, LEAST, 0, 3, 1900, 2, 29]
        self.assertEqual(answers(calls), [1, -1, 1, -2, 1, -1, 1, -1, 1, -1])

    def test_rows_of_sixty_bytes_are_read_to_their_end(self):
        calls = [8, 60] + [65] * 60 + [60] + [66] * 60 + [10, 60] + [67] * 60 + [2, 1]
        self.assertEqual(answers(calls), [1, -2, 1, -2, 6, 0, 4, 1900, 1, 1, 1])

    def test_long_rows_of_units_and_weights_are_read_to_their_end(self):
        calls = [14, 1, 1, 0, 0, 20] + [27] * 20 + [15, 1, 1, 0, 0, 60] + [65] * 60 + [20] + [18] * 20
        calls += [26, 1, 60] + [27] * 60 + [27]
        self.assertEqual(answers(calls), [1, -2, 1, -2, 1, -2, 6, 1, 4, 0, 0, 0, 0])

    def test_bytes_of_a_code_that_look_like_calls(self):
        calls = [8, 8, 0, 1, 2, 3, 4, 5, 6, 7, 0, 8, 1, 65, 0]
        self.assertEqual(answers(calls), [1, -2, 1, 1])

    def test_four_hundred_calls(self):
        calls = []
        for number in range(400):
            calls += day(number + 1)
        self.assertEqual(answers(calls), [1, 0] * 400)

    def test_least_and_greatest_numbers(self):
        for number in (LEAST, GREATEST):
            for call in (
                begin(number), begin(1, number), begin(1, 1, number), day(number), date(number),
                dayof(number, 1, 1), dayof(1900, number, 1), dayof(1900, 1, number),
                prime(number, 0, 0), prime(1, number, 1440), prime(1, 0, number),
                rate(number, 1, 1, 1, 1), rate(1, number, 1, 1, 1), rate(1, 1, number, 1, 1),
                rate(1, 1, 1, number, 1), rate(1, 1, 1, 1, number),
                rateof(number, 1, 1, 1), rateof(1, number, 1, 1), rateof(1, 1, number, 1), rateof(1, 1, 1, number),
                tier(number, 1), tier(1, number), budget(number, "A"), admit(number, "A"),
                price(number, 1, 0, 0), price(1, number, 0, 0), price(1, 1, number, 0), price(1, 1, 0, number),
                price(1, 1, 0, 0, [number] * 4), charge(number, 1, 0, 0, "A"), charge(1, number, 0, 0, "A"),
                charge(1, 1, number, 0, "A"), charge(1, 1, 0, number, "A"), charge(1, 1, 0, 0, "A", [number] * 4),
                credit(number, 1), credit(1, number), overhead(number, "A"), spent(number, "A"), invoice(number, "A"),
                total(number), entry(number), statement(number, 1, 1, "A"), statement(0, number, 1, "A"),
                statement(0, 1, number, "A"), split(number, [1]), split(1, [number]),
            ):
                with self.subTest(call=call):
                    self.assertEqual(answers(call), [1, -1])


class Untouchable(list):
    """A list that can't be changed, not for a while either."""

    def refuse(self, *arguments):
        raise AssertionError("the list handed in is changed")

    append = extend = insert = pop = remove = reverse = sort = clear = refuse
    __setitem__ = __delitem__ = __iadd__ = __imul__ = refuse


class NothingKept(LineTest):
    LINE = [
        account("A"), account("B", "A"), shut("A"), budget(5, "B"), prime(1, 0, 10), rate(2, 0, 0, 1, 9), tier(1, 1),
        day(50), move("B"), admit(5, "B"), reopen("A"), charge(1, 2, 0, 9, "A", (700, 0, 0, 0)), overhead(5, "A"),
        credit(1, 2), month(), when(),
    ]

    def test_a_line_begins_anew(self):
        first = self.run_line(self.LINE)
        self.assertEqual(first, [
            [1], [2], [0], [0], [1], [1], [1], [0], [0], [1, 1, 5], [0], [1, 2, 6, 0], [2], [3, 1, 4], [1, 2, 0, 6],
            [50, 4, 1, 1, 2, 3],
        ])
        self.assert_line([
            (account("A"), 1), (day(1), 0), (rateof(2, 0, 0, 1), 0), (admit(MOST, "A"), 0),
            (when(), [1, 4, 0, 0, 0, 0]), (entry(1), -4), (total(0), [0, 4, 0, 0, 0, 0]),
            (rate(2, 0, 0, 1, 1), 1), (invoice(0, "A"), -6),
        ])
        self.assertEqual(self.run_line(self.LINE), first)

    def test_what_is_handed_in_is_not_changed(self):
        line = [number for call in self.LINE for number in call] + split(9, [1, 2, 3]) + price(1, 1, 0, 9, [5] * 4)
        self.assertEqual(answers(Untouchable(line)), answers(line))

    def test_what_is_given_back_is_nobody_elses(self):
        line = date(1)
        given = answers(line)
        given.append(7)
        self.assertEqual(answers(line), [6, 0, 4, 1900, 1, 1, 1])
        self.assertEqual(line, date(1))

    def test_new_is_as_behind_begin(self):
        self.assertEqual(state(House()), state(self.house_after([begin(1, 200, 500)])))
        fresh = House()
        self.assertEqual(
            (fresh.today, fresh.account_cap, fresh.entry_cap, fresh.closed_months, fresh.last_day_charged),
            (1, 200, 500, 0, 0),
        )

    def test_two_objects_share_nothing(self):
        one = self.house_after(self.LINE)
        other = House()
        self.assertEqual(state(other), state(self.house_after([begin()])))
        self.assertNotEqual(state(one), state(other))


class Package(unittest.TestCase):
    def test_it_lies_at_the_top(self):
        top = os.path.dirname(os.path.dirname(os.path.abspath(__file__)))
        self.assertEqual(os.path.dirname(os.path.abspath(monthsclosed.__file__)), os.path.join(top, "monthsclosed"))


if __name__ == "__main__":
    unittest.main()
