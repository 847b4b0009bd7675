"""account, move, shut, reopen, budget, and what a code is."""

import unittest

from tests.helper import (
    GREATEST, LEAST, MOST, NO_CODES, LineTest, account, admit, begin, budget, chain, move, reopen, shut, state,
)

EIGHT = "ABCDEFGH"


class Codes(LineTest):
    def test_forms(self):
        codes = ("A", "Z", "0", "9", "AZ09", "ABCDEFGH", "12345678", "ZZZZZZZZ", "00000000", "A0")
        self.assert_line([(account(code), place + 1) for place, code in enumerate(codes)])

    def test_each_byte(self):
        good = b"ABCDEFGHIJKLMNOPQRSTUVWXYZ0123456789"
        there = 0
        steps = []
        for byte in range(256):
            there += 1 if byte in good else 0
            steps.append((account([byte]), there if byte in good else -2))
        self.assert_line(steps)

    def test_what_is_no_code_is_refused_everywhere(self):
        house = self.house_after([account("A")])
        for text in NO_CODES:
            for call in (account(text), account(text, "A"), move(text), move(text, "A"), shut(text), reopen(text),
                         budget(1, text), admit(1, text)):
                self.assert_refused(house, call, -2)
            if text != "":
                for call in (account("B", text), account("A", text), move("A", text), move("B", text)):
                    self.assert_refused(house, call, -2)

    def test_a_code_is_its_bytes(self):
        self.assert_line([
            (account("A"), 1), (account("AA"), 2), (account("0"), 3), (account("00"), 4), (account("A"), -5),
            (shut("AAA"), -4), (shut("AA"), 0), (shut("A"), 0), (shut("000"), -4),
        ])


class AccountCall(LineTest):
    def test_under_one_another(self):
        self.assert_line([
            (account("A"), 1), (account("B", "A"), 2), (account("C", "A"), 3), (account("D", "C"), 4),
            (account("E"), 5), (account("F", "X"), -4), (account("F", "F"), -4), (account("A", "A"), -5),
        ])
        house = self.house_after([account("A"), account("B", "A")])
        self.assertEqual(state(house.accounts), {
            (65,): {"parent": [], "is_shut": False, "budget": None},
            (66,): {"parent": [65], "is_shut": False, "budget": None},
        })

    def test_a_shut_parent_takes_accounts(self):
        self.assert_line([(account("A"), 1), (shut("A"), 0), (account("B", "A"), 2), (reopen("B"), -5)])

    def test_eight_deep(self):
        steps = [(call, place + 1) for place, call in enumerate(chain(EIGHT))]
        steps += [(account("I", "H"), -9), (account("I", "G"), 9), (account("J", "I"), -9), (account("J"), 10)]
        self.assert_line(steps)

    def test_caps(self):
        self.assert_line([
            (begin(1, 1, 1), 0), (account("A"), 1), (account("B"), -8), (account("B", "A"), -8), (account("A"), -5),
            (account("B", "C"), -4), (account("B", "b"), -2), (begin(1, 2, 1), 0), (account("B"), 1),
            (account("C"), 2), (account("D"), -8),
        ])
        steps = [(account(f"N{number}"), number) for number in range(1, 201)]
        self.assert_line(steps + [(account("N201"), -8), (account("N201", "N1"), -8), (shut("N200"), 0)])

    def test_order_of_refusals(self):
        house = self.house_after([begin(1, 8, 1)] + chain(EIGHT))
        self.assert_refused(house, account("a", "a"), -2)
        self.assert_refused(house, account("A", "h"), -2)
        self.assert_refused(house, account("h", "X"), -2)
        self.assert_refused(house, account("A", "X"), -5)
        self.assert_refused(house, account("A", "H"), -5)
        self.assert_refused(house, account("A"), -5)
        self.assert_refused(house, account("X", "Y"), -4)
        self.assert_refused(house, account("X", "H"), -9)
        self.assert_refused(house, account("X", "G"), -8)
        self.assert_refused(house, account("X"), -8)


class Move(LineTest):
    def test_with_all_below(self):
        self.assert_line([
            (account("A"), 1), (account("B", "A"), 2), (account("C", "B"), 3), (account("D"), 4), (budget(5, "D"), 0),
            (admit(6, "C"), 0), (move("B", "D"), 0), (admit(6, "C"), -11), (admit(6, "B"), -11), (admit(6, "A"), 0),
            (move("B"), 0), (admit(6, "C"), 0), (move("C", "D"), 0), (admit(6, "C"), -11), (admit(6, "B"), 0),
            (move("C", "D"), 0), (move("D", "B"), 0), (move("B", "A"), 0), (move("A", "C"), -7), (move("D", "D"), -7),
        ])

    def test_it_changes_the_place_alone(self):
        house = self.house_after([account("A"), account("B", "A"), account("C"), shut("B"), budget(7, "B")])
        before = state(house)
        self.assert_answer(house, move("B", "C"), [0])
        before["accounts"][(66,)]["parent"] = [67]
        self.assertEqual(state(house), before)
        self.assert_answer(house, move("B"), [0])
        before["accounts"][(66,)]["parent"] = []
        self.assertEqual(state(house), before)
        self.assert_answer(house, move("B"), [0])
        self.assertEqual(state(house), before)

    def test_under_itself(self):
        house = self.house_after(chain(EIGHT) + [account("X", "A")])
        self.assert_refused(house, move("A", "A"), -7)
        self.assert_refused(house, move("A", "B"), -7)
        self.assert_refused(house, move("A", "H"), -7)
        self.assert_refused(house, move("H", "H"), -7)
        self.assert_refused(house, move("A", "X"), -7)
        self.assert_answer(house, move("X", "G"), [0])
        self.assert_answer(house, move("H", "A"), [0])

    def test_one_alone_eight_and_nine_deep(self):
        house = self.house_after(chain(EIGHT) + [account("X")])
        self.assert_refused(house, move("X", "H"), -9)
        self.assert_answer(house, move("X", "G"), [0])
        self.assert_answer(house, move("X", "F"), [0])

    def test_others_below_eight_and_nine_deep(self):
        house = self.house_after(chain("ABCDEF") + chain("XYZ") + [account("W", "X")])
        self.assert_refused(house, move("X", "F"), -9)
        self.assert_answer(house, move("Y", "F"), [0])
        self.assert_answer(house, move("X", "E"), [0])
        self.assert_refused(house, account("V", "Z"), -9)
        self.assert_refused(house, move("Y", "W"), -9)
        self.assert_answer(house, move("X", "D"), [0])
        self.assert_answer(house, move("Y", "W"), [0])

    def test_the_deepest_below_counts(self):
        house = self.house_after(
            chain("ABCDE") + [account("X"), account("P", "X"), account("Q", "X"), account("R", "Q"), account("S", "R")]
        )
        self.assert_refused(house, move("X", "E"), -9)
        self.assert_answer(house, move("X", "D"), [0])
        self.assert_answer(house, move("X"), [0])
        self.assert_answer(house, move("S"), [0])
        self.assert_answer(house, move("X", "E"), [0])
        self.assert_refused(house, account("T", "R"), -9)

    def test_accounts_beside_it_do_not_count(self):
        house = self.house_after(chain(EIGHT) + [account("X", "A"), account("Y")])
        self.assert_answer(house, move("X", "G"), [0])
        self.assert_answer(house, move("Y", "G"), [0])

    def test_a_whole_chain_at_the_top(self):
        house = self.house_after(chain(EIGHT) + [account("X")])
        self.assert_refused(house, move("A", "X"), -9)
        self.assert_answer(house, move("A"), [0])
        self.assert_answer(house, move("B", "X"), [0])
        self.assert_answer(house, move("B"), [0])

    def test_order_of_refusals(self):
        house = self.house_after(chain(EIGHT) + chain("XY"))
        self.assert_refused(house, move("M", "m"), -2)
        self.assert_refused(house, move("m", "M"), -2)
        self.assert_refused(house, move("M", "N"), -4)
        self.assert_refused(house, move("M", "H"), -4)
        self.assert_refused(house, move("M"), -4)
        self.assert_refused(house, move("A", "M"), -4)
        self.assert_refused(house, move("M", "M"), -4)
        self.assert_refused(house, move("A", "H"), -7)
        self.assert_refused(house, move("X", "H"), -9)
        self.assert_refused(house, move("X", "G"), -9)

    def test_shut_accounts_and_full_caps_do_not_matter(self):
        self.assert_line([
            (begin(1, 2, 1), 0), (account("A"), 1), (account("B"), 2), (shut("A"), 0), (shut("B"), 0),
            (move("A", "B"), 0), (move("A"), 0), (move("B", "A"), 0),
        ])


class ShutAndReopen(LineTest):
    def test_back_and_forth(self):
        self.assert_line([
            (shut("A"), -4), (reopen("A"), -4), (account("A"), 1), (reopen("A"), -5), (shut("A"), 0), (shut("A"), -5),
            (reopen("A"), 0), (reopen("A"), -5), (shut("A"), 0), (shut("a"), -2), (reopen("a"), -2), (shut(""), -2),
            (reopen(""), -2),
        ])

    def test_one_account_alone(self):
        house = self.house_after(chain("ABC"))
        before = state(house)
        self.assert_answer(house, shut("B"), [0])
        before["accounts"][(66,)]["is_shut"] = True
        self.assertEqual(state(house), before)
        self.assert_refused(house, shut("B"), -5)
        self.assert_refused(house, reopen("A"), -5)
        self.assert_refused(house, reopen("C"), -5)
        self.assert_answer(house, reopen("B"), [0])
        before["accounts"][(66,)]["is_shut"] = False
        self.assertEqual(state(house), before)


class Budget(LineTest):
    def test_ends_of_the_range(self):
        self.assert_line([
            (account("A"), 1), (budget(-2, "A"), -1), (budget(-1, "A"), 0), (admit(0, "A"), 0), (budget(0, "A"), 0),
            (admit(0, "A"), [1, 1, 0]), (budget(MOST, "A"), 0), (admit(0, "A"), [1, 1, MOST]),
            (budget(MOST + 1, "A"), -1), (budget(LEAST, "A"), -1), (budget(GREATEST, "A"), -1),
            (admit(MOST, "A"), [1, 1, MOST]), (budget(-1, "A"), 0), (admit(MOST, "A"), 0), (budget(-1, "A"), 0),
        ])

    def test_order_of_refusals(self):
        house = self.house_after([account("A"), budget(9, "A")])
        self.assert_refused(house, budget(-2, "a"), -1)
        self.assert_refused(house, budget(-2, "X"), -1)
        self.assert_refused(house, budget(-2, "A"), -1)
        self.assert_refused(house, budget(MOST + 1, ""), -1)
        self.assert_refused(house, budget(1, "a"), -2)
        self.assert_refused(house, budget(1, ""), -2)
        self.assert_refused(house, budget(1, "X"), -4)
        self.assert_refused(house, budget(-1, "X"), -4)

    def test_of_a_shut_account(self):
        self.assert_line([
            (account("A"), 1), (shut("A"), 0), (budget(4, "A"), 0), (reopen("A"), 0), (admit(4, "A"), [1, 1, 4]),
        ])


if __name__ == "__main__":
    unittest.main()
