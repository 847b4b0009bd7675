"""admit, and what accounts have spent."""

import unittest

from monthsclosed.house import CHARGE, CREDIT, OVERHEAD, Entry
from tests.helper import (
    GREATEST, LEAST, MOST, LineTest, account, admit, begin, budget, chain, day, move, reopen, shut,
)


def put(house, kind, code, month, amount):
    house.entries.append(Entry(kind, tuple(code.encode()), month, amount, ()))


class Admit(LineTest):
    def test_no_budget(self):
        self.assert_line([(account("A"), 1), (account("B", "A"), 2), (admit(0, "B"), 0), (admit(MOST, "B"), 0)])

    def test_ends_of_the_range(self):
        self.assert_line([
            (account("A"), 1), (budget(MOST, "A"), 0), (admit(-1, "A"), -1), (admit(0, "A"), [1, 1, MOST]),
            (admit(MOST, "A"), [1, 1, MOST]), (admit(MOST + 1, "A"), -1), (admit(LEAST, "A"), -1),
            (admit(GREATEST, "A"), -1),
        ])

    def test_just_what_is_left_and_one_more(self):
        self.assert_line([
            (account("A"), 1), (budget(100, "A"), 0), (admit(100, "A"), [1, 1, 100]), (admit(101, "A"), -11),
            (admit(99, "A"), [1, 1, 100]), (budget(0, "A"), 0), (admit(0, "A"), [1, 1, 0]), (admit(1, "A"), -11),
        ])

    def test_several_budgets_on_the_path(self):
        self.assert_line([(call, place + 1) for place, call in enumerate(chain("ABCD"))] + [
            (budget(50, "A"), 0), (budget(30, "C"), 0), (budget(40, "D"), 0), (admit(30, "D"), [1, 1, 30]),
            (admit(31, "D"), -11), (admit(31, "B"), [1, 1, 50]), (admit(51, "B"), -11), (admit(51, "A"), -11),
            (budget(20, "A"), 0), (admit(20, "D"), [1, 1, 20]), (admit(21, "D"), -11), (budget(-1, "A"), 0),
            (admit(21, "B"), 0), (budget(10, "D"), 0), (admit(10, "D"), [1, 1, 10]), (admit(11, "D"), -11),
            (admit(11, "C"), [1, 1, 30]), (move("D"), 0), (budget(-1, "D"), 0), (admit(MOST, "D"), 0),
        ])

    def test_budgets_below_and_beside_do_not_matter(self):
        self.assert_line([
            (account("A"), 1), (account("B", "A"), 2), (account("C", "A"), 3), (budget(1, "B"), 0),
            (admit(9, "A"), 0), (admit(9, "C"), 0), (admit(9, "B"), -11),
        ])

    def test_shut_accounts_on_the_path(self):
        self.assert_line([(call, place + 1) for place, call in enumerate(chain("ABC"))] + [
            (account("D", "A"), 4), (shut("B"), 0), (admit(0, "C"), -6), (admit(0, "B"), -6), (admit(0, "A"), 0),
            (admit(0, "D"), 0), (reopen("B"), 0), (admit(0, "C"), 0), (shut("A"), 0), (admit(0, "C"), -6),
            (admit(0, "D"), -6), (move("C"), 0), (admit(0, "C"), 0), (shut("C"), 0), (admit(0, "C"), -6),
        ])

    def test_order_of_refusals(self):
        house = self.house_after(chain("AB") + [budget(5, "B"), shut("A")])
        self.assert_refused(house, admit(-1, "b"), -1)
        self.assert_refused(house, admit(MOST + 1, "X"), -1)
        self.assert_refused(house, admit(-1, "B"), -1)
        self.assert_refused(house, admit(6, "b"), -2)
        self.assert_refused(house, admit(6, ""), -2)
        self.assert_refused(house, admit(6, "X"), -4)
        self.assert_refused(house, admit(6, "B"), -6)
        self.assert_answer(house, reopen("A"), [0])
        self.assert_refused(house, admit(6, "B"), -11)

    def test_it_sets_nothing_aside(self):
        self.assert_line([(account("A"), 1), (budget(5, "A"), 0)] + [(admit(5, "A"), [1, 1, 5])] * 3)


class Spent(LineTest):
    def test_what_it_and_all_below_have_spent(self):
        house = self.house_after(chain("ABC") + [account("D", "A"), account("E"), budget(100, "A"), budget(90, "B")])
        put(house, CHARGE, "A", 0, 1)
        put(house, CHARGE, "B", 0, 10)
        put(house, CHARGE, "C", 0, 20)
        put(house, CHARGE, "C", 0, 5)
        put(house, CHARGE, "D", 0, 40)
        put(house, CHARGE, "E", 0, 1000)
        self.assert_answer(house, admit(24, "C"), [1, 1, 24])
        self.assert_refused(house, admit(25, "C"), -11)
        self.assert_answer(house, admit(24, "A"), [1, 1, 24])
        self.assert_answer(house, move("D"), [0])
        self.assert_answer(house, admit(55, "C"), [1, 1, 55])
        self.assert_answer(house, admit(64, "A"), [1, 1, 64])
        self.assert_answer(house, admit(0, "D"), [0])

    def test_overheads_are_not_spent(self):
        house = self.house_after([account("A"), budget(100, "A")])
        put(house, OVERHEAD, "A", 0, 70)
        self.assert_answer(house, admit(100, "A"), [1, 1, 100])

    def test_credits_give_back(self):
        house = self.house_after(chain("AB") + [budget(100, "A"), budget(60, "B")])
        put(house, CHARGE, "B", 0, 50)
        put(house, CREDIT, "B", 0, -30)
        self.assert_answer(house, admit(40, "B"), [1, 1, 40])
        put(house, CREDIT, "B", 0, -70)
        self.assert_answer(house, admit(110, "B"), [1, 1, 110])
        self.assert_refused(house, admit(111, "B"), -11)
        self.assert_answer(house, admit(150, "A"), [1, 1, 150])

    def test_more_spent_than_the_budget(self):
        house = self.house_after([account("A"), budget(100, "A")])
        put(house, CHARGE, "A", 0, 101)
        self.assert_refused(house, admit(0, "A"), -11)
        self.assert_answer(house, budget(101, "A"), [0])
        self.assert_answer(house, admit(0, "A"), [1, 1, 0])

    def test_todays_month_alone(self):
        house = self.house_after([begin(31), account("A"), budget(100, "A")])
        put(house, CHARGE, "A", 0, 10)
        put(house, CHARGE, "A", 1, 30)
        self.assert_answer(house, admit(0, "A"), [1, 1, 90])
        self.assert_answer(house, day(32), [0])
        self.assert_answer(house, admit(0, "A"), [1, 1, 70])
        self.assert_answer(house, day(59), [0])
        self.assert_answer(house, admit(0, "A"), [1, 1, 70])
        self.assert_answer(house, day(60), [0])
        self.assert_answer(house, admit(0, "A"), [1, 1, 100])


if __name__ == "__main__":
    unittest.main()
