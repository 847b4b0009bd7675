"""All that there is: the one object that a line's calls read and change."""

from monthsclosed.dates import month_of

CHARGE = 1
CREDIT = 2
OVERHEAD = 3


class Account:
    """The parent is a code, or the empty tuple at the top; the budget is an amount or None."""

    def __init__(self, parent):
        self.parent = parent
        self.is_shut = False
        self.budget = None


class Entry:
    """The details are a tuple: a charge's work, the number of a credit's charge, or nothing."""

    def __init__(self, kind, code, month, amount, details):
        self.kind = kind
        self.code = code
        self.month = month
        self.amount = amount
        self.details = details


class House:
    def __init__(self):
        self.renew(1, 200, 500)

    def renew(self, today, account_cap, entry_cap):
        self.today = today
        self.account_cap = account_cap
        self.entry_cap = entry_cap
        self.closed_months = month_of(today)
        self.last_day_charged = 0
        # By the day from which they hold: from, to.
        self.prime_hours = {}
        # By kind, shift, class and day: the value.
        self.rates = {}
        # By limit: the thousandths.
        self.tiers = {}
        # By code, a tuple of bytes: tuples have the order of texts.
        self.accounts = {}
        # Entry number n is at index n - 1.
        self.entries = []
        # By month, then by code: own, discount, share, total.
        self.invoices = {}
