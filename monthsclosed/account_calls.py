"""The calls on accounts: each gives back what it answers, as a list."""

from monthsclosed.checks import is_amount, is_code, is_code_or_empty, refusal_of_code
from monthsclosed.dates import month_of
from monthsclosed.house import Account
from monthsclosed.refusals import ALREADY_SO, BEYOND_BUDGET, NO_ROOM, NOT_THERE, OUT_OF_RANGE, TOO_DEEP
from monthsclosed.refusals import UNDER_ITSELF, WRONG_FORM, WRONG_STATE
from monthsclosed.rows import with_row, with_rows
from monthsclosed.spending import spent_in
from monthsclosed.tree import DEEPEST, children_by_parent, depth_of, height_of, path_of


def is_place(house, parent):
    """Whether an account can be put there: at the top, or under one that is there."""
    return len(parent) == 0 or parent in house.accounts


def answer_account(house, code, parent):
    if not (is_code(code) and is_code_or_empty(parent)):
        return [WRONG_FORM]
    if code in house.accounts:
        return [ALREADY_SO]
    if not is_place(house, parent):
        return [NOT_THERE]
    if depth_of(house, parent) >= DEEPEST:
        return [TOO_DEEP]
    if len(house.accounts) >= house.account_cap:
        return [NO_ROOM]
    house.accounts[code] = Account(parent)
    return [len(house.accounts)]


def answer_move(house, code, parent):
    if not (is_code(code) and is_code_or_empty(parent)):
        return [WRONG_FORM]
    if not (code in house.accounts and is_place(house, parent)):
        return [NOT_THERE]
    if code in path_of(house, parent):
        return [UNDER_ITSELF]
    if depth_of(house, parent) + height_of(house, code) > DEEPEST:
        return [TOO_DEEP]
    account = house.accounts[code]
    account.parent = parent
    return [0]


def set_shut(house, code, is_shut):
    refusal = refusal_of_code(house, code)
    if refusal < 0:
        return [refusal]
    account = house.accounts[code]
    if account.is_shut == is_shut:
        return [ALREADY_SO]
    account.is_shut = is_shut
    return [0]


def answer_shut(house, code):
    return set_shut(house, code, True)


def answer_reopen(house, code):
    return set_shut(house, code, False)


def answer_budget(house, amount, code):
    if not is_amount(amount, -1):
        return [OUT_OF_RANGE]
    refusal = refusal_of_code(house, code)
    if refusal < 0:
        return [refusal]
    account = house.accounts[code]
    account.budget = None if amount == -1 else amount
    return [0]


def amounts_left(house, path):
    """What is left in today's month of each budget on the path."""
    spent = spent_in(house, month_of(house.today))
    left = []
    for code in path:
        budget = house.accounts[code].budget
        if budget is not None:
            left.append(budget - spent.get(code, 0))
    return left


def answer_admit(house, estimate, code):
    if not is_amount(estimate, 0):
        return [OUT_OF_RANGE]
    refusal = refusal_of_code(house, code)
    if refusal < 0:
        return [refusal]
    path = path_of(house, code)
    if any([house.accounts[each].is_shut for each in path]):
        return [WRONG_STATE]
    left = amounts_left(house, path)
    if len(left) == 0:
        return [0]
    least = min(left)
    if least < estimate:
        return [BEYOND_BUDGET]
    return with_row(1, [least])


def answer_children(house, code):
    if not is_code_or_empty(code):
        return [WRONG_FORM]
    if not is_place(house, code):
        return [NOT_THERE]
    children = children_by_parent(house).get(code, [])
    return with_rows(len(children), children)


def answer_path(house, code):
    refusal = refusal_of_code(house, code)
    if refusal < 0:
        return [refusal]
    path = path_of(house, code)
    return with_rows(len(path), path)
