"""How accounts stand under one another."""

DEEPEST = 8


def path_of(house, code):
    """The codes from the account itself to the top; none for the empty code."""
    path = []
    while len(code) > 0:
        path.append(code)
        code = house.accounts[code].parent
    return path


def depth_of(house, code):
    return len(path_of(house, code))


def height_of(house, code):
    """How many accounts stand on the longest way from this one down, itself among them."""
    height = 1
    for other in house.accounts:
        path = path_of(house, other)
        if code in path:
            height = max(height, path.index(code) + 1)
    return height


def children_by_parent(house):
    """By code (at the top: the empty one), the codes right under it, in their order; those without are left out."""
    children = {}
    for code in sorted(house.accounts):
        parent = house.accounts[code].parent
        children[parent] = children.get(parent, []) + [code]
    return children


def from_top_down(house):
    """All codes, each behind the one it stands under."""
    depths = {}
    for code in house.accounts:
        depths[code] = depth_of(house, code)
    return sorted(house.accounts, key=lambda each: depths[each])


def with_all_below(house, amounts):
    """By code, its amount and those of all below it, added up; a code left out has 0."""
    sums = {}
    for code, amount in amounts.items():
        for upper in path_of(house, code):
            sums[upper] = sums.get(upper, 0) + amount
    return sums
