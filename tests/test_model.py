"""Lines of many calls, drawn at random, against a slow model that goes by the document's words one by one."""

import random
import unittest
from fractions import Fraction

from tests.helper import GREATEST, LAST_DAY, LEAST, MOST, MOST_UNITS, LineTest, row

NAMES = (
    "begin day date dayof prime rate rateof tier account move shut reopen budget admit price charge credit overhead "
    "month spent invoice total entry statement children path split when"
).split()
CODES = [b"A", b"B", b"AA", b"A0", b"9", b"Z9Z9Z9Z9", b"C", b"D", b"E", b"F", b"G", b"H", b"10", b"Z", b"ZZ", b"0A"]


class Refused(Exception):
    pass


def need(holds, refusal):
    if not holds:
        raise Refused(refusal)


def need_code(code):
    need(1 <= len(code) <= 8 and all(byte in b"ABCDEFGHIJKLMNOPQRSTUVWXYZ0123456789" for byte in code), -2)


def date_of(number):
    """Year, month and day of the month, by walking from year to year and from month to month."""
    year, month = 1900, 1
    while True:
        is_leap = year % 4 == 0 and (year % 100 != 0 or year % 400 == 0)
        if number <= 365 + is_leap:
            break
        number -= 365 + is_leap
        year += 1
    for length in (31, 28 + is_leap, 31, 30, 31, 30, 31, 31, 30, 31, 30, 31):
        if number <= length:
            return year, month, number
        number -= length
        month += 1


def month_of(number):
    year, month, day = date_of(number)
    return (year - 1900) * 12 + month - 1


def rounded(number):
    # Of two as near, Python rounds an exact quotient to the even one.
    return round(Fraction(number, 1000))


def shared(amount, weights):
    shares = [amount * weight // sum(weights) for weight in weights]
    remainders = [amount * weight % sum(weights) for weight in weights]
    while sum(shares) < amount:
        chosen = remainders.index(max(remainders))
        shares[chosen] += 1
        remainders[chosen] = -1
    return shares


class Model:
    def __init__(self):
        self.begin(1, 200, 500)

    def answer(self, name, arguments):
        try:
            answered = getattr(self, name)(*arguments)
        except Refused as refused:
            return [refused.args[0]]
        first, rows = answered if isinstance(answered, tuple) else (answered, [])
        return [first] + [number for each in rows for number in row(each)]

    def begin(self, day, accounts, entries):
        need(1 <= day <= LAST_DAY and 1 <= accounts <= 200 and 1 <= entries <= 500, -1)
        self.today, self.accounts_cap, self.entries_cap = day, accounts, entries
        self.closed, self.charged = month_of(day), 0
        self.primes, self.rates, self.tiers = [], [], []
        self.parents, self.shuts, self.budgets = {}, set(), {}
        self.entries, self.invoices = [], []
        return 0

    def day(self, n):
        need(self.today <= n <= LAST_DAY, -1)
        self.today = n
        return 0

    def date(self, day):
        need(1 <= day <= LAST_DAY, -1)
        return month_of(day), [[*date_of(day), (day - 1) % 7 + 1]]

    def dayof(self, year, month, day):
        need(1900 <= year <= 2899 and 1 <= month <= 12 and 1 <= day <= 31, -1)
        guess = (year - 1900) * 365 + (month - 1) * 28 + day
        for number in range(guess, guess + 300):
            if date_of(number) == (year, month, day):
                return number
        raise Refused(-1)

    def when(self):
        return self.today, [[month_of(self.today), self.closed, self.charged, len(self.entries)]]

    def prime(self, day, start, stop):
        need(1 <= day <= LAST_DAY and 0 <= start <= 1440 and start <= stop <= 1440, -1)
        need(day > self.charged, -12)
        others = [each for each in self.primes if each[0] != day]
        need(len(others) < 20, -8)
        self.primes = sorted(others + [(day, start, stop)])
        return len(self.primes)

    def need_rate_place(self, kind, shift, grade, day):
        need(1 <= kind <= 5 and shift in ((1, 2, 3) if kind == 1 else (0,)), -1)
        need(0 <= grade <= 36 and 1 <= day <= LAST_DAY, -1)

    def rate(self, kind, shift, grade, day, value):
        self.need_rate_place(kind, shift, grade, day)
        need(0 <= value <= 10**12, -1)
        need(day > self.charged, -12)
        others = [each for each in self.rates if each[:4] != (kind, shift, grade, day)]
        need(len(others) < 100, -8)
        self.rates = sorted(others + [(kind, shift, grade, day, value)])
        return len(self.rates)

    def in_force(self, kind, shift, grade, day):
        for wanted in ((kind, shift, grade), (kind, shift, 0)):
            values = [each[4] for each in self.rates if each[:3] == wanted and each[3] <= day]
            if values:
                return values[-1]
        return 0

    def rateof(self, kind, shift, grade, day):
        self.need_rate_place(kind, shift, grade, day)
        return self.in_force(kind, shift, grade, day)

    def tier(self, limit, thousandths):
        need(0 <= limit <= MOST and 0 <= thousandths <= 1000, -1)
        others = [each for each in self.tiers if each[0] != limit]
        need(len(others) < 5, -8)
        self.tiers = sorted(others + [(limit, thousandths)])
        return len(self.tiers)

    def shift_of(self, day, minute):
        if (day - 1) % 7 + 1 >= 6:
            return 3
        start, stop = 480, 1080
        for since, first, last in self.primes:
            if since <= day:
                start, stop = first, last
        return 1 if start <= minute < stop else 2

    def exact(self, grade, day, minute, minutes, units):
        """The exact cost, and the day on which the work ends."""
        cost, end, known = 0, day, {}
        for each in range(minutes):
            end = day + (minute + each) // 1440
            shift = self.shift_of(end, (minute + each) % 1440)
            if (end, shift) not in known:
                known[end, shift] = self.in_force(1, shift, grade, end)
            cost += known[end, shift]
        for place, number in enumerate(units):
            cost += number * self.in_force(place + 2, 0, grade, end)
        return cost, end

    def need_work(self, grade, day, minute, minutes):
        need(1 <= grade <= 36 and 1 <= day <= LAST_DAY and 0 <= minute <= 1439 and 0 <= minutes <= 10080, -1)

    def price(self, grade, day, minute, minutes, units):
        self.need_work(grade, day, minute, minutes)
        need(len(units) == 4, -2)
        need(all(0 <= number <= MOST_UNITS for number in units), -1)
        exact, end = self.exact(grade, day, minute, minutes, units)
        return 0, [[rounded(exact), exact]]

    def path_of(self, code):
        return [] if code == b"" else [code] + self.path_of(self.parents[code])

    def below(self, code):
        return [other for other in self.parents if other != code and code in self.path_of(other)]

    def under(self, code):
        return sorted(other for other, parent in self.parents.items() if parent == code)

    def need_parent(self, parent):
        if parent != b"":
            need(parent in self.parents, -4)

    def account(self, code, parent):
        need_code(code)
        if parent != b"":
            need_code(parent)
        need(code not in self.parents, -5)
        self.need_parent(parent)
        need(len(self.path_of(parent)) < 8, -9)
        need(len(self.parents) < self.accounts_cap, -8)
        self.parents[code] = parent
        return len(self.parents)

    def move(self, code, parent):
        need_code(code)
        if parent != b"":
            need_code(parent)
        need(code in self.parents, -4)
        self.need_parent(parent)
        need(code not in self.path_of(parent), -7)
        kept = dict(self.parents)
        self.parents[code] = parent
        if max(len(self.path_of(each)) for each in [code] + self.below(code)) > 8:
            self.parents = kept
            raise Refused(-9)
        return 0

    def need_there(self, code):
        need_code(code)
        need(code in self.parents, -4)

    def shut(self, code):
        self.need_there(code)
        need(code not in self.shuts, -5)
        self.shuts.add(code)
        return 0

    def reopen(self, code):
        self.need_there(code)
        need(code in self.shuts, -5)
        self.shuts.remove(code)
        return 0

    def budget(self, amount, code):
        need(-1 <= amount <= MOST, -1)
        self.need_there(code)
        self.budgets[code] = amount
        return 0

    def own(self, month, code):
        return sum(each["amount"] for each in self.entries if each["at"] == (month, code) and each["kind"] in (1, 2))

    def overheads(self, month, code):
        return sum(each["amount"] for each in self.entries if each["at"] == (month, code) and each["kind"] == 3)

    def spent_by(self, month, code):
        return sum(self.own(month, each) for each in [code] + self.below(code))

    def admit(self, estimate, code):
        need(0 <= estimate <= MOST, -1)
        self.need_there(code)
        path = self.path_of(code)
        need(not any(each in self.shuts for each in path), -6)
        left = [
            self.budgets[each] - self.spent_by(month_of(self.today), each)
            for each in path if self.budgets.get(each, -1) != -1
        ]
        if not left:
            return 0
        need(min(left) >= estimate, -11)
        return 1, [[min(left)]]

    def children(self, code):
        if code != b"":
            self.need_there(code)
        return len(self.under(code)), self.under(code)

    def path(self, code):
        self.need_there(code)
        return len(self.path_of(code)), self.path_of(code)

    def record(self, kind, code, month, amount, details):
        need(len(self.entries) < self.entries_cap, -8)
        self.entries.append({"kind": kind, "at": (month, code), "amount": amount, "details": details})
        return len(self.entries)

    def charge(self, grade, day, minute, minutes, code, units):
        self.need_work(grade, day, minute, minutes)
        need_code(code)
        need(len(units) == 4, -2)
        need(all(0 <= number <= MOST_UNITS for number in units), -1)
        exact, end = self.exact(grade, day, minute, minutes, units)
        need(end <= self.today, -12)
        self.need_there(code)
        month = month_of(end)
        while month < self.closed:
            month += 1
        number = self.record(1, code, month, rounded(exact), [grade, day, minute, minutes] + list(units))
        if end > self.charged:
            self.charged = end
        return number, [[rounded(exact), month]]

    def credit(self, number, amount):
        need(1 <= number <= 500 and 1 <= amount <= MOST, -1)
        need(number <= len(self.entries), -4)
        charge = self.entries[number - 1]
        need(charge["kind"] == 1, -6)
        given = [each["amount"] for each in self.entries if each["kind"] == 2 and each["details"] == [number]]
        left = charge["amount"] + sum(given)
        need(amount <= left, -13)
        return self.record(2, charge["at"][1], month_of(self.today), -amount, [number]), [[left - amount]]

    def overhead(self, amount, code):
        need(1 <= amount <= MOST, -1)
        self.need_there(code)
        return self.record(3, code, month_of(self.today), amount, [])

    def entry(self, number):
        need(1 <= number <= 500, -1)
        need(number <= len(self.entries), -4)
        told = self.entries[number - 1]
        month, code = told["at"]
        return told["kind"], [code, [month, told["amount"]], told["details"]]

    def statement(self, month, start, most, code):
        need(0 <= month <= 11999 and 1 <= start <= 500 and 1 <= most <= 100, -1)
        self.need_there(code)
        told = []
        for number in range(start, len(self.entries) + 1):
            if self.entries[number - 1]["at"] == (month, code) and len(told) < most:
                told.append((number, self.entries[number - 1]["amount"]))
        return len(told), [[number for pair in told for number in pair]]

    def discount(self, own):
        exact = 0
        for place, (limit, thousandths) in enumerate(self.tiers):
            end = self.tiers[place + 1][0] if place + 1 < len(self.tiers) else own
            if own > limit:
                exact += (min(own, end) - limit) * thousandths
        return rounded(exact)

    def hand_down(self, month, code, amount, nets, shares):
        amount += self.overheads(month, code)
        under = self.under(code)
        if not under:
            shares[code] = amount
            return
        weights = [max(0, sum(nets[each] for each in [child] + self.below(child))) for child in under]
        if not any(weights):
            weights = [1] * len(under)
        for child, part in zip(under, shared(amount, weights)):
            self.hand_down(month, child, part, nets, shares)

    def month(self):
        month = self.closed
        need(month < month_of(self.today), -6)
        owns = {code: self.own(month, code) for code in self.parents}
        discounts = {code: self.discount(owns[code]) for code in self.parents}
        nets = {code: owns[code] - discounts[code] for code in self.parents}
        shares = {}
        for code in self.under(b""):
            self.hand_down(month, code, 0, nets, shares)
        told = []
        for code in self.parents:
            line = [owns[code], discounts[code], shares.get(code, 0)]
            if any(line):
                told.append((month, code, line + [line[0] - line[1] + line[2]]))
        self.invoices += told
        self.closed += 1
        return len(told), [[month, sum(line[3] for month, code, line in told)]]

    def spent(self, month, code):
        need(0 <= month <= 11999, -1)
        self.need_there(code)
        return 0, [[self.own(month, code), self.spent_by(month, code), self.overheads(month, code)]]

    def invoice(self, month, code):
        need(0 <= month <= 11999, -1)
        self.need_there(code)
        need(month < self.closed, -6)
        for invoice in self.invoices:
            if invoice[:2] == (month, code):
                return 1, [invoice[2]]
        return 0

    def total(self, month):
        need(0 <= month <= 11999, -1)
        those = [each for each in self.entries if each["at"][0] == month]
        told = [line for number, code, line in self.invoices if number == month]
        return len(those), [[
            sum(each["amount"] for each in those if each["kind"] != 3),
            sum(each["amount"] for each in those if each["kind"] == 3),
            sum(line[1] for line in told), sum(line[3] for line in told),
        ]]

    def split(self, amount, weights):
        need(0 <= amount <= MOST, -1)
        need(1 <= len(weights) <= 50, -2)
        need(all(0 <= weight <= MOST_UNITS for weight in weights), -1)
        need(any(weights), -6)
        return len(weights), [shared(amount, weights)]


class Drawn:
    """Draws calls, mostly such as make sense for what the model holds."""

    def __init__(self, seed):
        self.source = random.Random(seed)
        self.model = Model()

    def number(self, least, greatest):
        """Mostly within, now and then at an end or one beyond it, seldom far out."""
        chance = self.source.random()
        if chance < 0.01:
            return self.source.choice((least - 1, greatest + 1, LEAST, GREATEST))
        if chance < 0.1:
            return self.source.choice((least, greatest))
        return self.source.randint(least, greatest)

    def code(self, empty=0.0):
        chance = self.source.random()
        if chance < empty:
            return b""
        if chance > 0.98:
            return self.source.choice((b"", b"a", b"AB-", b"123456789", b"NONE"))
        if chance > 0.9 or not self.model.parents:
            return self.source.choice(CODES)
        return self.source.choice(list(self.model.parents))

    def near(self):
        """A day not far from today, mostly not later."""
        return max(1, min(LAST_DAY, self.model.today - self.source.choice((0, 1, 2, 5, 8, 9, 15, 30, 60, -1))))

    def amount(self, least):
        """Mostly of the size of a charge."""
        return self.source.choice((least, 1, 7, self.number(least, self.source.choice((2000, 10**7, MOST)))))

    def month_number(self):
        return max(0, month_of(self.model.today) - self.source.choice((0, 0, 1, 1, 2, 3, -1)))

    def units(self):
        size = 4 if self.source.random() < 0.98 else self.source.choice((0, 3, 5))
        most = self.source.choice((0, 3, 3, 900, MOST_UNITS))
        return [self.number(0, most) for place in range(size)]

    def place(self):
        kind = self.source.choice((1, 1, 1, 2, 3, 4, 5))
        return kind, self.source.randint(1, 3) if kind == 1 else 0, self.source.choice((0, 0, 0, 1, 2, 36))

    def work(self):
        minutes = self.source.choice((0, 1, 60, 1440, self.source.randint(0, 3000), self.number(0, 10080)))
        return self.source.choice((1, 2, 36, self.number(1, 36))), self.near(), self.number(0, 1439), minutes

    def arguments(self, name):
        number, code, near = self.number, self.code, self.near
        if name == "begin":
            return self.source.choice((1, 20, 58, 400, number(1, LAST_DAY))), number(1, 20), number(1, 60)
        if name == "day":
            return (min(LAST_DAY, self.model.today + self.source.choice((0, 1, 3, 8, 15, 31, -1))),)
        if name == "dayof":
            return number(1900, 2899), number(1, 12), number(1, 31)
        if name == "prime":
            start = number(0, 1440)
            return near() + self.source.choice((0, 2, 5)), start, number(start, 1440) if start <= 1440 else 0
        if name in ("rate", "rateof"):
            value = self.source.choice((1, 250, 500, 1000, 1500, number(0, 5000), number(0, 10**12)))
            return (*self.place(), near() + self.source.choice((0, 2, 5))) + ((value,) if name == "rate" else ())
        if name == "tier":
            return self.source.choice((0, 5, 10, 100, self.amount(0))), number(0, 1000)
        if name == "account":
            return self.source.choice(CODES), code(0.2)
        if name == "move":
            return code(), code(0.2)
        if name == "price":
            return (*self.work(), self.units())
        if name == "charge":
            return (*self.work(), code(), self.units())
        if name == "credit":
            return max(1, min(500, self.source.randint(1, len(self.model.entries) + 1))), self.amount(1)
        if name == "entry":
            return (self.source.randint(1, len(self.model.entries) + 1),)
        if name == "statement":
            return self.month_number(), self.source.choice((1, 1, 2, number(1, 500))), number(1, 100), code()
        if name == "split":
            most = self.source.choice((1, 3, MOST_UNITS))
            return self.amount(0), [number(0, most) for place in range(self.source.choice((1, 2, 3, 9, 50, 51)))]
        return self.arguments_of_the_rest(name)

    def arguments_of_the_rest(self, name):
        if name in ("month", "when"):
            return ()
        if name == "date":
            return (self.number(1, LAST_DAY),)
        if name in ("shut", "reopen", "path"):
            return (self.code(),)
        if name == "children":
            return (self.code(0.4),)
        if name == "total":
            return (self.month_number(),)
        if name in ("spent", "invoice"):
            return self.month_number(), self.code()
        least = {"budget": -1, "admit": 0, "overhead": 1}[name]
        return self.amount(least), self.code()

    def step(self, name, *arguments):
        """A call, and what the model answers of it."""
        call = [NAMES.index(name)]
        for each in arguments:
            call += [each] if isinstance(each, int) else row(each)
        return call, self.model.answer(name, arguments)

    def line(self, names, size):
        steps = []
        for each in range(size):
            name = self.source.choice(names)
            steps.append(self.step(name, *self.arguments(name)))
        return steps


# How often each call is drawn: what makes entries and closes months above all, and begin not at all.
OFTEN = ["charge"] * 14 + ["overhead"] * 5 + ["credit"] * 5 + ["day"] * 5 + ["month"] * 4 + ["account"] * 6
OFTEN += ["move"] * 3 + ["rate"] * 3 + ["total", "invoice", "spent", "statement"] * 3 + NAMES[1:]


class Lines(LineTest):
    def test_lines_of_every_call(self):
        for seed in range(60):
            drawn = Drawn(seed)
            steps = drawn.line(["account"], 20) + drawn.line(["rate"], 8) + drawn.line(["day"], 8)
            steps += drawn.line(OFTEN, 180)
            with self.subTest(seed=seed):
                self.assert_line(steps)

    def test_lines_with_begin(self):
        for seed in range(100, 120):
            drawn = Drawn(seed)
            steps = []
            for part in range(4):
                steps += drawn.line(["begin"], 1) + drawn.line(["account"], 8) + drawn.line(["rate"], 6)
                steps += drawn.line(OFTEN + ["begin"], 60)
            with self.subTest(seed=seed):
                self.assert_line(steps)

    def assert_long_line(self, parent_of):
        """200 accounts; parent_of tells the number under which a number stands, or None."""
        drawn = Drawn(0)
        model, step = drawn.model, drawn.step
        codes = [b"N%d" % number for number in range(200)]
        steps = []
        for number, code in enumerate(codes):
            parent = parent_of(number)
            steps.append(step("account", code, b"" if parent is None else codes[parent]))
        steps += [step("rate", 1, 1, 0, 1, 333), step("rate", 1, 2, 0, 1, 77), step("rate", 2, 0, 0, 1, 1000)]
        steps += [step("tier", 100, 50), step("tier", 1000, 150)]
        for number in range(105):
            units = [number * 11, 0, 0, 0]
            steps.append(step("charge", 1, model.today, number, number * 7, codes[number * 37 % 200], units))
            if number % 3 == 0:
                steps.append(step("overhead", number * 100 + 7, codes[number * 13 % 200]))
            if number % 15 == 14:
                steps += [step("day", model.today + 20), step("month")]
        steps.append(step("day", 365))
        while len(steps) < 399:
            steps += [step("month"), step("total", model.closed - 1), step("credit", len(steps) - 350, 3)]
        steps.append(step("when"))
        self.assertEqual(len(steps), 400)
        self.assertGreater(len(model.entries), 140)
        self.assertGreater(len(model.invoices), 120)
        self.assertEqual(model.closed, 11)
        self.assert_line(steps)

    def test_four_hundred_calls_with_accounts_eight_deep(self):
        self.assert_long_line(lambda number: number - 1 if number % 8 else None)

    def test_four_hundred_calls_with_accounts_under_one(self):
        self.assert_long_line(lambda number: 0 if number else None)

    def test_four_hundred_calls_with_accounts_here_and_there(self):
        self.assert_long_line(lambda number: number // 3 if number > 2 else None)

    def test_what_is_recorded_is_what_is_invoiced(self):
        for seed in range(200, 220):
            drawn = Drawn(seed)
            steps = drawn.line(["account"], 20) + drawn.line(["tier"], 4) + drawn.line(["rate"], 8)
            steps += drawn.line(OFTEN, 150)
            months = range(drawn.model.closed)
            asked = [[21, each] for each in months][-100:]
            parts = self.run_line([call for call, answer in steps] + asked)[len(steps):]
            self.assertEqual(len(parts), len(asked))
            for entries, size, owns, laid, discounts, totals in parts:
                self.assertEqual(size, 4)
                self.assertEqual(owns + laid, discounts + totals)


if __name__ == "__main__":
    unittest.main()
