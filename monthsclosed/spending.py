"""What accounts have spent in a month, and the overheads that are laid on them."""

from monthsclosed.house import OVERHEAD
from monthsclosed.tree import with_all_below


def sums_by_code(entries):
    """By code, the amounts of its entries added up; accounts without any are left out."""
    sums = {}
    for entry in entries:
        sums[entry.code] = sums.get(entry.code, 0) + entry.amount
    return sums


def owns_in(house, month):
    """By code, each account's own of the month; one left out has 0."""
    return sums_by_code([entry for entry in house.entries if entry.month == month and entry.kind != OVERHEAD])


def overheads_in(house, month):
    """By code, each account's overheads of the month added up; one left out has 0."""
    return sums_by_code([entry for entry in house.entries if entry.month == month and entry.kind == OVERHEAD])


def spent_in(house, month):
    """By code, what each account has spent in the month; one left out has spent 0."""
    return with_all_below(house, owns_in(house, month))
