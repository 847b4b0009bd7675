"""children, path, when."""

import unittest

from tests.helper import (
    LAST_DAY, NO_CODES, UNIT_RATE, LineTest, account, begin, chain, children, cost, credit, day, month, move, overhead,
    path, rate, reopen, rows, shut, state, when,
)

EIGHT = "ABCDEFGH"


class Children(LineTest):
    def test_right_under_it(self):
        self.assert_line([(call, place + 1) for place, call in enumerate(chain("ABC"))] + [
            (account("D", "A"), 4), (account("E"), 5), (children(), [2] + rows("A", "E")),
            (children("A"), [2] + rows("B", "D")), (children("B"), [1] + rows("C")), (children("C"), 0),
            (children("E"), 0), (move("C", "A"), 0), (children("A"), [3] + rows("B", "C", "D")), (children("B"), 0),
            (move("A", "E"), 0), (children(), [1] + rows("E")), (children("E"), [1] + rows("A")),
            (move("D"), 0), (children(), [2] + rows("D", "E")),
        ])

    def test_none(self):
        self.assert_line([(children(), 0), (account("A"), 1), (children("A"), 0), (children(), [1, 1, 65])])

    def test_the_order_of_codes(self):
        codes = ["Z", "B", "AB", "A", "9", "AA", "A0", "0", "AAAAAAAA", "99", "A9", "B0", "10", "1"]
        ordered = ["0", "1", "10", "9", "99", "A", "A0", "A9", "AA", "AAAAAAAA", "AB", "B", "B0", "Z"]
        top = [(account(code), place + 1) for place, code in enumerate(codes)]
        self.assert_line(top + [(children(), [14] + rows(*ordered))])
        under = [(account("M"), 1)] + [(account(code, "M"), place + 2) for place, code in enumerate(codes)]
        self.assert_line(under + [(children("M"), [14] + rows(*ordered)), (children(), [1] + rows("M"))])

    def test_shut_ones_are_told(self):
        self.assert_line([
            (account("A"), 1), (account("B", "A"), 2), (shut("A"), 0), (shut("B"), 0), (children(), [1] + rows("A")),
            (children("A"), [1] + rows("B")), (reopen("B"), 0), (children("A"), [1] + rows("B")),
        ])

    def test_two_hundred(self):
        codes = [f"N{number}" for number in range(200)]
        steps = [(account(code), place + 1) for place, code in enumerate(codes)]
        self.assert_line(steps + [(children(), [200] + rows(*sorted(codes)))])

    def test_refusals(self):
        house = self.house_after([account("A")])
        for text in NO_CODES:
            if text != "":
                self.assert_refused(house, children(text), -2)
        self.assert_refused(house, children("B"), -4)
        self.assert_refused(house, children("AA"), -4)
        before = state(house)
        self.assert_answer(house, children(), [1, 1, 65])
        self.assertEqual(state(house), before)


class Path(LineTest):
    def test_from_itself_to_the_top(self):
        self.assert_line([(call, place + 1) for place, call in enumerate(chain(EIGHT))] + [
            (path("A"), [1] + rows("A")), (path("C"), [3] + rows("C", "B", "A")), (path("H"), [8] + rows(*"HGFEDCBA")),
            (move("C"), 0), (path("D"), [2] + rows("D", "C")), (path("B"), [2] + rows("B", "A")),
            (shut("C"), 0), (path("D"), [2] + rows("D", "C")),
        ])

    def test_codes_of_several_bytes(self):
        self.assert_line([(account("12345678"), 1), (account("AB", "12345678"), 2), (account("0", "AB"), 3)] + [
            (path("0"), [3] + rows("0", "AB", "12345678")), (path("12345678"), [1] + rows("12345678")),
        ])

    def test_refusals(self):
        house = self.house_after(chain("AB"))
        for text in NO_CODES:
            self.assert_refused(house, path(text), -2)
        self.assert_refused(house, path("C"), -4)
        before = state(house)
        self.assert_answer(house, path("B"), [2] + rows("B", "A"))
        self.assertEqual(state(house), before)


class When(LineTest):
    def test_at_a_lines_beginning_and_behind_begin(self):
        self.assert_line([
            (when(), [1, 4, 0, 0, 0, 0]), (begin(1), 0), (when(), [1, 4, 0, 0, 0, 0]), (begin(32), 0),
            (when(), [32, 4, 1, 1, 0, 0]), (begin(LAST_DAY), 0), (when(), [LAST_DAY, 4, 11999, 11999, 0, 0]),
            (begin(0), -1), (when(), [LAST_DAY, 4, 11999, 11999, 0, 0]),
        ])

    def test_today_and_its_month(self):
        self.assert_line([
            (day(31), 0), (when(), [31, 4, 0, 0, 0, 0]), (day(32), 0), (when(), [32, 4, 1, 0, 0, 0]), (day(31), -1),
            (when(), [32, 4, 1, 0, 0, 0]), (day(366), 0), (when(), [366, 4, 12, 0, 0, 0]), (month(), [0, 2, 0, 0]),
            (when(), [366, 4, 12, 1, 0, 0]), (day(LAST_DAY), 0), (when(), [LAST_DAY, 4, 11999, 1, 0, 0]),
        ])

    def test_entries_and_the_last_day_charged_for(self):
        self.assert_line([
            (account("A"), 1), (UNIT_RATE, 1), (day(20), 0), (cost(5, "A", 10), [1, 2, 5, 0]),
            (when(), [20, 4, 0, 0, 10, 1]), (credit(1, 1), [2, 1, 4]), (when(), [20, 4, 0, 0, 10, 2]),
            (overhead(1, "A"), 3), (when(), [20, 4, 0, 0, 10, 3]), (credit(1, 9), -13), (rate(2, 0, 0, 10, 1), -12),
            (when(), [20, 4, 0, 0, 10, 3]), (day(40), 0), (month(), [1, 2, 0, 5]), (when(), [40, 4, 1, 1, 10, 3]),
        ])


if __name__ == "__main__":
    unittest.main()
