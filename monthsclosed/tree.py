"""How accounts stand under one another."""

DEEPEST = 8


def path_of(house, code):
    """The codes from the account itself to the top; none for the empty code."""
    path = []
    while len(code) > 0:
        path.append(code)
        code = house.accounts[code].parent
    return path


def depth_of(house, code):
    return len(path_of(house, code))


def height_of(house, code):
    """How many accounts stand on the longest way from this one down, itself among them."""
    height = 1
    for other in house.accounts:
        path = path_of(house, other)
        if code in path:
            height = max(height, path.index(code) + 1)
    return height
