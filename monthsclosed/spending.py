"""What accounts have spent in a month."""

from monthsclosed.house import OVERHEAD
from monthsclosed.tree import path_of


def owns_in(house, month):
    """By code, each account's own of the month; accounts without charges and credits in it are left out."""
    owns = {}
    for entry in house.entries:
        if entry.month == month and entry.kind != OVERHEAD:
            owns[entry.code] = owns.get(entry.code, 0) + entry.amount
    return owns


def spent_in(house, month):
    """By code, what each account has spent in the month; one left out has spent 0."""
    spent = {}
    for code, own in owns_in(house, month).items():
        for upper in path_of(house, code):
            spent[upper] = spent.get(upper, 0) + own
    return spent
