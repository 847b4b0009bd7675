"""What happens when a month is closed: discounts, the shared costs handed down, and the invoices."""

from monthsclosed.arithmetic import rounded_to_thousands, share_out
from monthsclosed.spending import overheads_in, owns_in
from monthsclosed.tree import children_by_parent, from_top_down, with_all_below


def discount_of(house, own):
    """No tier has a part of an own that isn't above 0."""
    exact = 0
    rest = own
    # From the greatest limit down: each tier leaves to the next what isn't above its own limit.
    for limit in sorted(house.tiers, reverse=True):
        exact += max(0, rest - limit) * house.tiers[limit]
        rest = min(rest, limit)
    return rounded_to_thousands(exact)


def weights_of(codes, nets):
    """By what weights the accounts share; the nets are each one's own and those of all below it."""
    weights = [max(0, nets.get(code, 0)) for code in codes]
    if sum(weights) == 0:
        return [1 for code in codes]
    return weights


def shares_in(house, month, nets):
    """By code, the share of each account that has nobody under it; the others are left out."""
    children = children_by_parent(house)
    nets_with_below = with_all_below(house, nets)
    laid = overheads_in(house, month)
    shares = {}
    for code in from_top_down(house):
        amount = laid.get(code, 0)
        if code not in children:
            shares[code] = amount
            continue
        under = children[code]
        for child, part in zip(under, share_out(amount, weights_of(under, nets_with_below))):
            laid[child] = laid.get(child, 0) + part
    return shares


def invoices_in(house, month):
    """By code, own, discount, share and total of each account that gets an invoice of the month."""
    owns = owns_in(house, month)
    discounts = {}
    nets = {}
    for code, own in owns.items():
        discounts[code] = discount_of(house, own)
        nets[code] = own - discounts[code]
    shares = shares_in(house, month, nets)
    invoices = {}
    for code in house.accounts:
        own = owns.get(code, 0)
        discount = discounts.get(code, 0)
        share = shares.get(code, 0)
        # Without an own there is no discount either.
        if own != 0 or share != 0:
            invoices[code] = (own, discount, share, own - discount + share)
    return invoices
