"""Rounding to thousands, and sharing out."""


def rounded_to_thousands(number):
    whole = number // 1000
    rest = number % 1000
    is_nearer_above = rest > 500
    is_even_above = rest == 500 and whole % 2 == 1
    if is_nearer_above or is_even_above:
        return whole + 1
    return whole


def share_out(amount, weights):
    """What each gets of the amount; the weights are not all 0."""
    whole = sum(weights)
    shares = [amount * weight // whole for weight in weights]
    # With a minus the greatest remainders come first, and of the same ones the earlier.
    order = sorted([(-(amount * weight % whole), place) for place, weight in enumerate(weights)])
    left = amount - sum(shares)
    for chosen in order[:left]:
        shares[chosen[1]] += 1
    return shares
