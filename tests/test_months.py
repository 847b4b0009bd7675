"""month, spent, invoice, total, and what happens when a month is closed."""

import unittest

from tests.helper import (
    GREATEST, LAST_DAY, LEAST, MOST, MOST_UNITS, NO_CODES, UNIT_RATE, LineTest, account, admit, as_lists, begin,
    budget, chain, charge, cost, credit, day, entry, invoice, month, move, overhead, prime, rate, reopen, shut, spent,
    split, state, statement, tier, total, when,
)


def accounts(*pairs):
    """Steps that make accounts: each pair is a code and the code it stands under, as "B A"; or "A" at the top."""
    return [(account(*pair.split()), place + 1) for place, pair in enumerate(pairs)]


def charges(first, *pairs):
    """Steps that charge amounts in January 1900, from that entry number on."""
    return [(cost(amount, code), [first + place, 2, amount, 0]) for place, (code, amount) in enumerate(pairs)]


def overheads(first, *pairs):
    return [(overhead(amount, code), first + place) for place, (code, amount) in enumerate(pairs)]


class Spent(LineTest):
    def test_own_spent_and_overheads(self):
        self.assert_line(accounts("A", "B A", "C B", "D A", "E") + [(UNIT_RATE, 1)] + charges(
            1, ("A", 1), ("B", 10), ("C", 20), ("C", 5), ("D", 40), ("E", 1000)
        ) + overheads(7, ("A", 3), ("C", 4), ("C", 5)) + [
            (spent(0, "A"), [0, 3, 1, 76, 3]), (spent(0, "B"), [0, 3, 10, 35, 0]), (spent(0, "C"), [0, 3, 25, 25, 9]),
            (spent(0, "D"), [0, 3, 40, 40, 0]), (spent(0, "E"), [0, 3, 1000, 1000, 0]),
            (spent(1, "A"), [0, 3, 0, 0, 0]), (move("C"), 0), (spent(0, "A"), [0, 3, 1, 51, 3]),
            (spent(0, "B"), [0, 3, 10, 10, 0]), (spent(0, "C"), [0, 3, 25, 25, 9]), (credit(3, 20), [10, 1, 0]),
            (credit(2, 9), [11, 1, 1]), (spent(0, "C"), [0, 3, 5, 5, 9]), (spent(0, "A"), [0, 3, 1, 42, 3]),
            (move("A", "C"), 0), (spent(0, "C"), [0, 3, 5, 47, 9]),
        ])

    def test_months_apart(self):
        self.assert_line(accounts("A", "B A") + [(UNIT_RATE, 1)] + charges(1, ("B", 10)) + [
            (day(32), 0), (cost(7, "B", 32), [2, 2, 7, 1]), (credit(1, 10), [3, 1, 0]), (overhead(2, "B"), 4),
            (spent(0, "B"), [0, 3, 10, 10, 0]), (spent(1, "B"), [0, 3, -3, -3, 2]), (spent(1, "A"), [0, 3, 0, -3, 0]),
            (month(), [1, 2, 0, 10]), (spent(0, "B"), [0, 3, 10, 10, 0]), (spent(0, "A"), [0, 3, 0, 10, 0]),
        ])

    def test_nothing_spent(self):
        self.assert_line(accounts("A") + [
            (spent(0, "A"), [0, 3, 0, 0, 0]), (spent(11999, "A"), [0, 3, 0, 0, 0]), (day(60), 0),
            (spent(0, "A"), [0, 3, 0, 0, 0]),
        ])

    def test_refusals(self):
        house = self.house_after([account("A")])
        for number in (-1, 12000, LEAST, GREATEST):
            for code in ("a", "", "X", "A"):
                self.assert_refused(house, spent(number, code), -1)
        for text in NO_CODES:
            self.assert_refused(house, spent(0, text), -2)
        self.assert_refused(house, spent(0, "X"), -4)


class AdmitThroughAnswers(LineTest):
    def test_what_is_spent_below(self):
        self.assert_line(accounts("A", "B A", "C B", "D A", "E") + [
            (budget(100, "A"), 0), (budget(90, "B"), 0), (UNIT_RATE, 1),
        ] + charges(1, ("A", 1), ("B", 10), ("C", 20), ("C", 5), ("D", 40), ("E", 1000)) + [
            (admit(24, "C"), [1, 1, 24]), (admit(25, "C"), -11), (admit(24, "A"), [1, 1, 24]), (admit(25, "D"), -11),
            (move("D"), 0), (admit(55, "C"), [1, 1, 55]), (admit(56, "C"), -11), (admit(64, "A"), [1, 1, 64]),
            (admit(0, "D"), 0), (admit(0, "E"), 0),
        ])

    def test_overheads_credits_and_more_than_the_budget(self):
        self.assert_line(accounts("A", "B A") + [(budget(100, "A"), 0), (UNIT_RATE, 1)] + charges(1, ("B", 101)) + [
            (admit(0, "A"), -11), (admit(0, "B"), -11), (credit(1, 1), [2, 1, 100]), (admit(0, "B"), [1, 1, 0]),
            (admit(1, "B"), -11), (overhead(50, "B"), 3), (admit(0, "B"), [1, 1, 0]), (credit(1, 40), [4, 1, 60]),
            (admit(40, "B"), [1, 1, 40]), (admit(41, "B"), -11),
        ])

    def test_todays_month_alone(self):
        self.assert_line(accounts("A") + [(budget(100, "A"), 0), (UNIT_RATE, 1)] + charges(1, ("A", 10)) + [
            (admit(0, "A"), [1, 1, 90]), (day(32), 0), (admit(0, "A"), [1, 1, 100]), (cost(30, "A", 32), [2, 2, 30, 1]),
            (admit(0, "A"), [1, 1, 70]), (cost(5, "A", 31), [3, 2, 5, 0]), (admit(0, "A"), [1, 1, 70]),
            (month(), [1, 2, 0, 15]), (cost(5, "A", 31), [4, 2, 5, 1]), (admit(0, "A"), [1, 1, 65]),
            (credit(1, 10), [5, 1, 0]), (admit(0, "A"), [1, 1, 75]), (day(59), 0), (admit(0, "A"), [1, 1, 75]),
            (day(60), 0), (admit(100, "A"), [1, 1, 100]), (admit(101, "A"), -11), (credit(2, 30), [6, 1, 0]),
            (admit(130, "A"), [1, 1, 130]), (admit(131, "A"), -11),
        ])

    def test_shut_ones_ahead_of_the_budget(self):
        self.assert_line(accounts("A", "B A") + [(budget(1, "B"), 0), (UNIT_RATE, 1)] + charges(1, ("B", 5)) + [
            (shut("A"), 0), (admit(0, "B"), -6), (reopen("A"), 0), (admit(0, "B"), -11), (shut("B"), 0),
            (admit(0, "B"), -6), (admit(0, "A"), 0),
        ])


class MonthCall(LineTest):
    def test_one_month_after_another(self):
        self.assert_line(accounts("A") + [
            (month(), -6), (day(31), 0), (month(), -6), (day(32), 0), (month(), [0, 2, 0, 0]), (month(), -6),
            (when(), [32, 4, 1, 1, 0, 0]), (day(91), 0), (month(), [0, 2, 1, 0]), (when(), [91, 4, 3, 2, 0, 0]),
            (month(), [0, 2, 2, 0]), (month(), -6), (when(), [91, 4, 3, 3, 0, 0]),
        ])

    def test_months_closed_from_the_beginning(self):
        self.assert_line([
            (begin(365), 0), (month(), -6), (when(), [365, 4, 11, 11, 0, 0]), (day(366), 0), (month(), [0, 2, 11, 0]),
            (month(), -6), (begin(LAST_DAY - 31), 0), (month(), -6), (day(LAST_DAY), 0), (month(), [0, 2, 11998, 0]),
            (month(), -6), (when(), [LAST_DAY, 4, 11999, 11999, 0, 0]),
        ])

    def test_nothing_has_changed_behind_a_refusal(self):
        house = self.house_after([
            account("A"), UNIT_RATE, tier(0, 100), cost(50, "A"), overhead(5, "A"), day(32), month(), cost(9, "A", 32),
        ])
        self.assert_refused(house, month(), -6)
        self.assert_answer(house, day(59), [0])
        self.assert_refused(house, month(), -6)

    def test_it_changes_the_closed_months_and_invoices_alone(self):
        house = self.house_after([
            account("A"), account("B", "A"), budget(5, "B"), shut("A"), prime(9, 1, 2), UNIT_RATE, tier(10, 100),
            cost(50, "A"), overhead(5, "A"), day(60),
        ])
        before = state(house)
        self.assert_answer(house, month(), [2, 2, 0, 51])
        before["closed_months"] = 1
        before["invoices"] = {0: {(65,): [50, 4, 0, 46], (66,): [0, 0, 5, 5]}}
        self.assertEqual(state(house), before)
        self.assert_answer(house, month(), [0, 2, 1, 0])
        before["closed_months"] = 2
        before["invoices"][1] = {}
        self.assertEqual(state(house), before)

    def test_without_accounts(self):
        self.assert_line([(day(32), 0), (month(), [0, 2, 0, 0]), (total(0), [0, 4, 0, 0, 0, 0])])

    def test_own_of_a_closed_month_stays(self):
        self.assert_line(accounts("A") + [(UNIT_RATE, 1)] + charges(1, ("A", 10)) + [
            (day(32), 0), (month(), [1, 2, 0, 10]), (cost(5, "A", 1), [2, 2, 5, 1]), (overhead(6, "A"), 3),
            (credit(1, 10), [4, 1, 0]), (invoice(0, "A"), [1, 4, 10, 0, 0, 10]), (total(0), [1, 4, 10, 0, 0, 10]),
            (total(1), [3, 4, -5, 6, 0, 0]), (day(60), 0), (month(), [1, 2, 1, 1]),
            (invoice(1, "A"), [1, 4, -5, 0, 6, 1]), (total(1), [3, 4, -5, 6, 0, 1]),
        ])


class Discounts(LineTest):
    def assert_discounts(self, tiers, pairs):
        """Of one account, each own in a line of its own, with the discount that it has."""
        for own, discount in pairs:
            steps = accounts("A") + [(UNIT_RATE, 1)]
            steps += [(tier(*each), place + 1) for place, each in enumerate(tiers)]
            net = own - discount
            steps += charges(1, ("A", own)) + [
                (day(32), 0), (month(), [1, 2, 0, net]), (invoice(0, "A"), [1, 4, own, discount, 0, net]),
                (total(0), [1, 4, own, 0, discount, net]),
            ]
            with self.subTest(tiers=tiers, own=own):
                self.assert_line(steps)

    def test_no_tiers(self):
        self.assert_discounts((), ((1, 0), (1000, 0), (MOST_UNITS, 0)))

    def test_one_tier(self):
        self.assert_discounts(((1000, 100),), (
            (1, 0), (999, 0), (1000, 0), (1001, 0), (1004, 0), (1005, 0), (1006, 1), (1010, 1), (1014, 1), (1015, 2),
            (1016, 2), (1024, 2), (1025, 2), (1026, 3), (2000, 100),
        ))

    def test_several_tiers(self):
        # Handed in out of order; the parts are 0 to 100, to 200, to 300, to 1000, and above.
        self.assert_discounts(((200, 500), (0, 0), (1000, 1000), (100, 250), (300, 10)), (
            (1, 0), (99, 0), (100, 0), (101, 0), (102, 0), (103, 1), (104, 1), (199, 25), (200, 25), (201, 26),
            (202, 26), (203, 26), (204, 27), (299, 74), (300, 75), (301, 75), (350, 76), (351, 76), (1000, 82),
            (1001, 83), (1002, 84), (5000, 4082),
        ))

    def test_a_tier_from_0_on(self):
        self.assert_discounts(((0, 1000),), ((1, 1), (2, 2), (MOST_UNITS, MOST_UNITS)))
        self.assert_discounts(((0, 500),), ((1, 0), (2, 1), (3, 2), (4, 2), (5, 2), (6, 3), (7, 4)))
        self.assert_discounts(((0, 1),), ((499, 0), (500, 0), (501, 1), (1499, 1), (1500, 2), (1501, 2), (2500, 2)))
        self.assert_discounts(((0, 0),), ((1, 0), (MOST_UNITS, 0)))

    def test_the_greatest_limit(self):
        self.assert_discounts(((MOST, 1000), (MOST - 1, 0)), ((1, 0), (MOST_UNITS, 0)))

    def test_a_great_own(self):
        amount = MOST_UNITS * 10**9
        steps = accounts("A") + [
            (rate(2, 0, 0, 1, 10**12), 1), (tier(0, 1), 1), (tier(MOST, 1000), 2),
            (charge(1, 1, 0, 0, "A", (MOST_UNITS, 0, 0, 0)), [1, 2, amount, 0]), (day(32), 0),
        ]
        discount = amount - MOST + MOST // 1000
        self.assert_line(steps + [
            (month(), [1, 2, 0, amount - discount]), (invoice(0, "A"), [1, 4, amount, discount, 0, amount - discount]),
        ])

    def test_rounded_once_for_all_tiers(self):
        # 0.4 and 0.4 are 0.8; 0.5 and 1 are 1.5.
        self.assert_discounts(((0, 4), (100, 4)), ((200, 1),))
        self.assert_discounts(((0, 5), (100, 10)), ((200, 2),))

    def test_of_each_accounts_own(self):
        self.assert_line(accounts("A", "B A", "C B") + [(UNIT_RATE, 1), (tier(100, 100), 1)] + charges(
            1, ("A", 100), ("B", 90), ("C", 110), ("B", 30)
        ) + [
            (day(32), 0), (month(), [3, 2, 0, 327]), (invoice(0, "A"), [1, 4, 100, 0, 0, 100]),
            (invoice(0, "B"), [1, 4, 120, 2, 0, 118]), (invoice(0, "C"), [1, 4, 110, 1, 0, 109]),
            (total(0), [4, 4, 330, 0, 3, 327]),
        ])

    def test_an_own_below_0_and_of_0(self):
        self.assert_line(accounts("A", "B", "C", "D") + [(UNIT_RATE, 1), (tier(0, 1000), 1)] + charges(
            1, ("A", 10), ("B", 20), ("C", 0)
        ) + [
            (day(32), 0), (month(), [2, 2, 0, 0]), (invoice(0, "A"), [1, 4, 10, 10, 0, 0]), (invoice(0, "C"), 0),
            (invoice(0, "B"), [1, 4, 20, 20, 0, 0]), (invoice(0, "D"), 0), (total(0), [3, 4, 30, 0, 30, 0]),
            (credit(1, 4), [4, 1, 6]), (credit(2, 20), [5, 1, 0]), (cost(20, "B", 32), [6, 2, 20, 1]), (day(60), 0),
            (month(), [1, 2, 1, -4]), (invoice(1, "A"), [1, 4, -4, 0, 0, -4]), (invoice(1, "B"), 0),
            (total(1), [3, 4, -4, 0, 0, -4]),
        ])

    def test_tiers_of_the_closing_count(self):
        self.assert_line(accounts("A") + [(UNIT_RATE, 1), (tier(0, 100), 1)] + charges(1, ("A", 100)) + [
            (day(60), 0), (cost(100, "A", 32), [2, 2, 100, 1]), (tier(0, 200), 1), (month(), [1, 2, 0, 80]),
            (tier(50, 1000), 2), (month(), [1, 2, 1, 40]), (invoice(0, "A"), [1, 4, 100, 20, 0, 80]),
            (invoice(1, "A"), [1, 4, 100, 60, 0, 40]),
        ])

    def test_overheads_have_no_discount(self):
        self.assert_line(accounts("A") + [(tier(0, 1000), 1), (overhead(70, "A"), 1), (day(32), 0)] + [
            (month(), [1, 2, 0, 70]), (invoice(0, "A"), [1, 4, 0, 0, 70, 70]), (total(0), [1, 4, 0, 70, 0, 70]),
        ])


class SharedCosts(LineTest):
    def assert_closed(self, steps, shares):
        """Closes January 1900 and compares all shares; whoever isn't named has none."""
        calls = [call for call, answer in steps]
        codes = [call[2:2 + call[1]] for call in calls if call[0] == 8]
        asked = calls + [day(32), month(), total(0)] + [invoice(0, code) for code in codes]
        parts = self.run_line(asked)
        self.assertEqual(parts[:len(calls)], as_lists(steps))
        told = {}
        invoices = parts[len(calls) + 3:]
        for code, part in zip(codes, invoices):
            if part != [0]:
                self.assertEqual(part[:2], [1, 4])
                self.assertEqual(part[5], part[2] - part[3] + part[4])
                told["".join(map(chr, code))] = part[4]
        self.assertEqual({code: share for code, share in told.items() if share != 0}, shares)
        number, size, closed, totals = parts[len(calls) + 1]
        self.assertEqual((number, size, closed), (len(told), 2, 0))
        self.assertEqual(totals, sum(part[5] for part in invoices if part != [0]))
        entries, size, owns, laid, discounts, invoiced = parts[len(calls) + 2]
        self.assertEqual(invoiced, totals)
        self.assertEqual(owns + laid - discounts, totals)
        self.assertEqual(laid, sum(shares.values()))
        self.assertEqual(discounts, sum(part[3] for part in invoices if part != [0]))

    def test_nobody_under_it(self):
        self.assert_closed(accounts("A", "B") + overheads(1, ("A", 10), ("A", 5), ("B", 1)), {"A": 15, "B": 1})

    def test_by_what_was_spent(self):
        tree = accounts("A", "B A", "C A", "D A") + [(UNIT_RATE, 1)]
        self.assert_closed(tree + charges(1, ("B", 1), ("C", 2), ("D", 3)) + overheads(4, ("A", 60)), {
            "B": 10, "C": 20, "D": 30,
        })
        self.assert_closed(tree + charges(1, ("B", 1), ("D", 3), ("A", 50)) + overheads(4, ("A", 8)), {"B": 2, "D": 6})

    def test_what_is_left_goes_by_the_remainders(self):
        tree = accounts("A", "D A", "C A", "B A") + [(UNIT_RATE, 1)]
        self.assert_closed(tree + charges(1, ("B", 1), ("C", 1), ("D", 1)) + overheads(4, ("A", 10)), {
            "B": 4, "C": 3, "D": 3,
        })
        self.assert_closed(tree + charges(1, ("B", 1), ("C", 1), ("D", 1)) + overheads(4, ("A", 11)), {
            "B": 4, "C": 4, "D": 3,
        })
        self.assert_closed(tree + charges(1, ("B", 1), ("C", 1), ("D", 2)) + overheads(4, ("A", 1)), {"D": 1})
        self.assert_closed(tree + charges(1, ("B", 1), ("C", 1), ("D", 2)) + overheads(4, ("A", 3)), {
            "B": 1, "C": 1, "D": 1,
        })

    def test_the_order_of_codes(self):
        tree = accounts("A", "B1 A", "B A", "C A", "9 A", "B0 A", "AA A")
        self.assert_closed(tree + overheads(1, ("A", 1)), {"9": 1})
        self.assert_closed(tree + overheads(1, ("A", 2)), {"9": 1, "AA": 1})
        self.assert_closed(tree + overheads(1, ("A", 3)), {"9": 1, "AA": 1, "B": 1})
        self.assert_closed(tree + overheads(1, ("A", 4)), {"9": 1, "AA": 1, "B": 1, "B0": 1})
        self.assert_closed(tree + overheads(1, ("A", 11)), {"9": 2, "AA": 2, "B": 2, "B0": 2, "B1": 2, "C": 1})

    def test_at_the_top_between_and_at_the_bottom(self):
        tree = accounts("A", "B A", "C A", "D B", "E B", "F")
        self.assert_closed(tree + overheads(1, ("A", 100), ("B", 10), ("D", 1), ("C", 7), ("F", 2)), {
            "C": 57, "D": 31, "E": 30, "F": 2,
        })
        self.assert_closed(tree + overheads(1, ("B", 10)), {"D": 5, "E": 5})
        self.assert_closed(tree + overheads(1, ("A", 1)), {"D": 1})
        self.assert_closed(tree + overheads(1, ("A", 2)), {"C": 1, "D": 1})

    def test_what_it_got_and_its_overheads_are_shared_out_together(self):
        # B has 5 of A and 5 of its own: 10 by 1 and 2, where twice 5 would give 2 + 2 and 3 + 3.
        tree = accounts("A", "B A", "C A", "D B", "E B") + [(UNIT_RATE, 1)]
        self.assert_closed(tree + charges(1, ("D", 1), ("E", 2), ("C", 3)) + overheads(4, ("A", 10), ("B", 5)), {
            "C": 5, "D": 3, "E": 7,
        })

    def test_eight_deep(self):
        steps = [(call, place + 1) for place, call in enumerate(chain("ABCDEFGH"))]
        self.assert_closed(steps + [(account("I", "A"), 9)] + overheads(1, ("A", 9), ("B", 1), ("G", 3)), {
            "H": 9, "I": 4,
        })

    def test_weights_are_with_all_below(self):
        tree = accounts("A", "B A", "C A", "D B", "E D") + [(UNIT_RATE, 1)]
        self.assert_closed(tree + charges(1, ("B", 1), ("D", 2), ("E", 3), ("C", 2)) + overheads(5, ("A", 8)), {
            "E": 6, "C": 2,
        })

    def test_weights_are_nets(self):
        # 20 less 10 is 10; 30 less 20 is 10.
        tree = accounts("A", "B A", "C A", "D A") + [(UNIT_RATE, 1), (tier(10, 1000), 1)]
        self.assert_closed(tree + charges(1, ("B", 20), ("C", 30), ("D", 5)) + overheads(4, ("A", 25)), {
            "B": 10, "C": 10, "D": 5,
        })
        # A whole own taken off is a weight of 0, too.
        tree = accounts("A", "B A", "C A") + [(UNIT_RATE, 1), (tier(0, 1000), 1)]
        self.assert_closed(tree + charges(1, ("B", 20), ("C", 30)) + overheads(3, ("A", 25)), {"B": 13, "C": 12})

    def test_overheads_are_no_weight(self):
        tree = accounts("A", "B A", "C A") + [(UNIT_RATE, 1)]
        self.assert_closed(tree + charges(1, ("C", 1)) + overheads(2, ("A", 5), ("B", 100)), {"B": 100, "C": 5})

    def test_shut_ones_get_their_share(self):
        tree = accounts("A", "B A", "C A") + [(UNIT_RATE, 1), (shut("B"), 0), (shut("A"), 0)]
        self.assert_closed(tree + charges(1, ("B", 2), ("C", 1)) + overheads(3, ("A", 9)), {"B": 6, "C": 3})
        self.assert_closed(tree + overheads(1, ("A", 9)), {"B": 5, "C": 4})

    def test_moved_between_entry_and_closing(self):
        tree = accounts("A", "B A", "C", "D") + [(UNIT_RATE, 1)]
        laid = charges(1, ("B", 2), ("D", 1)) + overheads(3, ("A", 9), ("C", 6))
        self.assert_closed(tree + laid, {"B": 9, "C": 6})
        self.assert_closed(tree + laid + [(move("B", "C"), 0)], {"A": 9, "B": 6})
        self.assert_closed(tree + laid + [(move("B", "C"), 0), (move("D", "C"), 0)], {"A": 9, "B": 4, "D": 2})
        self.assert_closed(tree + laid + [(move("C", "A"), 0)], {"B": 9, "C": 6})
        self.assert_closed(tree + laid + [(move("C", "B"), 0), (move("D", "C"), 0)], {"D": 15})

    def test_moved_behind_the_closing(self):
        self.assert_line(accounts("A", "B A", "C") + overheads(1, ("A", 9)) + [
            (day(60), 0), (month(), [1, 2, 0, 9]), (move("B"), 0), (invoice(0, "B"), [1, 4, 0, 0, 9, 9]),
            (invoice(0, "A"), 0), (total(0), [1, 4, 0, 9, 0, 9]),
        ])

    def test_weights_below_0(self):
        # A credit of an earlier month makes an own below 0.
        steps = accounts("A", "B A", "C A", "D A", "E B") + [(UNIT_RATE, 1)] + charges(1, ("B", 50), ("D", 50)) + [
            (day(32), 0), (month(), [2, 2, 0, 100]), (credit(1, 30), [3, 1, 20]), (cost(10, "C", 32), [4, 2, 10, 1]),
            (overhead(7, "A"), 5),
        ]
        self.assert_line(steps + [
            (day(60), 0), (month(), [2, 2, 1, -13]), (invoice(1, "C"), [1, 4, 10, 0, 7, 17]),
            (invoice(1, "B"), [1, 4, -30, 0, 0, -30]), (invoice(1, "D"), 0), (invoice(1, "E"), 0),
        ])
        # With 35 below it, B's weight is 5.
        self.assert_line(steps + [
            (cost(35, "E", 32), [6, 2, 35, 1]), (overhead(8, "A"), 7), (day(60), 0), (month(), [3, 2, 1, 30]),
            (invoice(1, "C"), [1, 4, 10, 0, 10, 20]), (invoice(1, "E"), [1, 4, 35, 0, 5, 40]),
            (invoice(1, "B"), [1, 4, -30, 0, 0, -30]),
        ])
        # With just 30 below it, it is 0.
        self.assert_line(steps + [
            (cost(30, "E", 32), [6, 2, 30, 1]), (day(60), 0), (month(), [3, 2, 1, 17]),
            (invoice(1, "C"), [1, 4, 10, 0, 7, 17]), (invoice(1, "E"), [1, 4, 30, 0, 0, 30]),
        ])
        # None above 0: all are 1.
        self.assert_line(steps + [
            (credit(4, 10), [6, 1, 0]), (day(60), 0), (month(), [4, 2, 1, -23]), (invoice(1, "E"), [1, 4, 0, 0, 3, 3]),
            (invoice(1, "B"), [1, 4, -30, 0, 0, -30]), (invoice(1, "C"), [1, 4, 0, 0, 2, 2]),
            (invoice(1, "D"), [1, 4, 0, 0, 2, 2]),
        ])

    def test_an_own_with_a_share_that_make_a_total_of_0(self):
        self.assert_line(accounts("A") + [(UNIT_RATE, 1)] + charges(1, ("A", 9)) + [
            (day(32), 0), (month(), [1, 2, 0, 9]), (credit(1, 9), [2, 1, 0]), (overhead(9, "A"), 3), (day(60), 0),
            (month(), [1, 2, 1, 0]), (invoice(1, "A"), [1, 4, -9, 0, 9, 0]), (total(1), [2, 4, -9, 9, 0, 0]),
        ])

    def test_that_months_overheads_alone(self):
        self.assert_line(accounts("A", "B A") + overheads(1, ("A", 9)) + [
            (day(32), 0), (overhead(5, "A"), 2), (month(), [1, 2, 0, 9]), (day(60), 0), (overhead(4, "A"), 3),
            (month(), [1, 2, 1, 5]), (invoice(0, "B"), [1, 4, 0, 0, 9, 9]), (invoice(1, "B"), [1, 4, 0, 0, 5, 5]),
            (invoice(2, "B"), -6),
        ])

    def test_the_greatest(self):
        self.assert_closed(accounts("A", "B A", "C A") + [(rate(2, 0, 0, 1, 10**12), 1)] + [
            (charge(1, 1, 0, 0, "B", (MOST_UNITS, 0, 0, 0)), [1, 2, 10**18, 0]),
            (charge(1, 1, 0, 0, "C", (MOST_UNITS - 1, 0, 0, 0)), [2, 2, 10**18 - 10**9, 0]),
        ] + overheads(3, ("A", MOST)), {"B": 500000000250000, "C": 499999999750000})


class Invoice(LineTest):
    LINE = accounts("A", "B A") + [(UNIT_RATE, 1), (tier(0, 100), 1)] + charges(1, ("A", 100)) + [(day(60), 0)]

    def test_open_and_closed_months(self):
        self.assert_line(self.LINE + [
            (invoice(0, "A"), -6), (month(), [1, 2, 0, 90]), (invoice(0, "A"), [1, 4, 100, 10, 0, 90]),
            (invoice(0, "B"), 0), (invoice(1, "A"), -6), (month(), [0, 2, 1, 0]), (invoice(1, "A"), 0),
            (invoice(2, "A"), -6), (invoice(11999, "A"), -6),
        ])

    def test_months_closed_from_the_beginning(self):
        self.assert_line([
            (begin(60), 0), (account("A"), 1), (invoice(0, "A"), 0), (invoice(1, "A"), 0), (invoice(2, "A"), -6),
            (begin(LAST_DAY), 0), (account("A"), 1), (invoice(11998, "A"), 0), (invoice(11999, "A"), -6),
        ])

    def test_accounts_made_behind_the_closing(self):
        self.assert_line(self.LINE + [(month(), [1, 2, 0, 90]), (account("C"), 3), (invoice(0, "C"), 0)])

    def test_refusals(self):
        house = self.house_after([account("A"), day(32), month()])
        for number in (-1, 12000, LEAST, GREATEST):
            for code in ("a", "", "X", "A"):
                self.assert_refused(house, invoice(number, code), -1)
        for text in NO_CODES:
            self.assert_refused(house, invoice(0, text), -2)
            self.assert_refused(house, invoice(1, text), -2)
        self.assert_refused(house, invoice(0, "X"), -4)
        self.assert_refused(house, invoice(1, "X"), -4)
        self.assert_refused(house, invoice(1, "A"), -6)
        self.assert_refused(house, invoice(11999, "A"), -6)
        self.assert_answer(house, invoice(0, "A"), [0])


class Total(LineTest):
    def test_open_and_closed_months(self):
        self.assert_line(accounts("A", "B A", "C A") + [(UNIT_RATE, 1), (tier(10, 500), 1)] + charges(
            1, ("A", 30), ("B", 8), ("C", 10), ("C", 0)
        ) + overheads(5, ("A", 100), ("C", 3)) + [
            (credit(1, 6), [7, 1, 24]), (total(0), [7, 4, 42, 103, 0, 0]), (day(32), 0), (credit(1, 4), [8, 1, 20]),
            (total(0), [7, 4, 42, 103, 0, 0]), (total(1), [1, 4, -4, 0, 0, 0]), (month(), [3, 2, 0, 138]),
            (total(0), [7, 4, 42, 103, 7, 138]), (total(1), [1, 4, -4, 0, 0, 0]), (total(2), [0, 4, 0, 0, 0, 0]),
            (invoice(0, "A"), [1, 4, 24, 7, 0, 17]), (invoice(0, "B"), [1, 4, 8, 0, 44, 52]),
            (invoice(0, "C"), [1, 4, 10, 0, 59, 69]),
        ])

    def test_ends_of_the_range(self):
        self.assert_line([
            (total(-1), -1), (total(0), [0, 4, 0, 0, 0, 0]), (total(11999), [0, 4, 0, 0, 0, 0]), (total(12000), -1),
            (total(LEAST), -1), (total(GREATEST), -1),
        ])

    def test_nothing_has_changed(self):
        house = self.house_after([account("A"), UNIT_RATE, cost(5, "A"), day(32), month()])
        for number in (-1, 12000):
            self.assert_refused(house, total(number), -1)
        before = state(house)
        for call, answer in (
            (total(0), [1, 4, 5, 0, 0, 5]), (spent(0, "A"), [0, 3, 5, 5, 0]), (invoice(0, "A"), [1, 4, 5, 0, 0, 5]),
            (split(9, (1, 2)), [2, 2, 3, 6]), (when(), [32, 4, 1, 1, 1, 1]),
        ):
            self.assert_answer(house, call, answer)
        self.assertEqual(state(house), before)


class BeginOnceMore(LineTest):
    def test_all_is_new(self):
        used = [
            account("A"), account("B", "A"), UNIT_RATE, tier(0, 100), prime(2, 0, 1), cost(50, "A"), overhead(7, "A"),
            day(70), cost(5, "B", 60), credit(1, 3), month(), month(),
        ]
        fresh = [
            (begin(65, 2, 2), 0), (when(), [65, 4, 2, 2, 0, 0]), (entry(1), -4), (total(0), [0, 4, 0, 0, 0, 0]),
            (total(2), [0, 4, 0, 0, 0, 0]), (account("A"), 1), (invoice(0, "A"), 0), (invoice(1, "A"), 0),
            (invoice(2, "A"), -6), (spent(2, "A"), [0, 3, 0, 0, 0]), (statement(2, 1, 100, "A"), [0, 0]),
            (cost(50, "A", 65), [1, 2, 0, 2]), (credit(1, 1), -13), (overhead(9, "A"), 2), (overhead(9, "A"), -8),
            (prime(66, 0, 1), 1), (rate(1, 1, 1, 66, 1), 1), (rate(1, 1, 1, 65, 1), -12), (month(), -6), (day(91), 0),
            (month(), [1, 2, 2, 9]), (invoice(2, "A"), [1, 4, 0, 0, 9, 9]),
        ]
        parts = self.run_line(used + [call for call, answer in fresh])
        self.assertEqual(parts[len(used):], as_lists(fresh))
        self.assertTrue(all(part[0] >= 0 for part in parts[:len(used)]))


if __name__ == "__main__":
    unittest.main()
