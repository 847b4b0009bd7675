"""The calls on months, and split: each gives back what it answers, as a list."""

from monthsclosed.arithmetic import share_out
from monthsclosed.checks import is_amount, is_month, is_within, refusal_of_code
from monthsclosed.closing import invoices_in
from monthsclosed.dates import month_of
from monthsclosed.refusals import OUT_OF_RANGE, WRONG_FORM, WRONG_STATE
from monthsclosed.rows import with_row
from monthsclosed.spending import overheads_in, owns_in, spent_in

MOST_WEIGHTS = 50
GREATEST_WEIGHT = 1000000000


def answer_month(house):
    month = house.closed_months
    if month >= month_of(house.today):
        return [WRONG_STATE]
    invoices = invoices_in(house, month)
    house.invoices[month] = invoices
    house.closed_months = month + 1
    return with_row(len(invoices), [month, sum([invoice[3] for invoice in invoices.values()])])


def refusal_of_month_and_code(house, month, code):
    if not is_month(month):
        return OUT_OF_RANGE
    return refusal_of_code(house, code)


def answer_spent(house, month, code):
    refusal = refusal_of_month_and_code(house, month, code)
    if refusal < 0:
        return [refusal]
    own = owns_in(house, month).get(code, 0)
    spent = spent_in(house, month).get(code, 0)
    return with_row(0, [own, spent, overheads_in(house, month).get(code, 0)])


def answer_invoice(house, month, code):
    refusal = refusal_of_month_and_code(house, month, code)
    if refusal < 0:
        return [refusal]
    if month >= house.closed_months:
        return [WRONG_STATE]
    # Months closed from the beginning have no invoices.
    invoice = house.invoices.get(month, {}).get(code)
    if invoice is None:
        return [0]
    return with_row(1, invoice)


def answer_total(house, month):
    if not is_month(month):
        return [OUT_OF_RANGE]
    size = len([entry for entry in house.entries if entry.month == month])
    owns = sum(owns_in(house, month).values())
    overheads = sum(overheads_in(house, month).values())
    invoices = list(house.invoices.get(month, {}).values())
    discounts = sum([invoice[1] for invoice in invoices])
    return with_row(size, [owns, overheads, discounts, sum([invoice[3] for invoice in invoices])])


def answer_split(amount, weights):
    if not is_amount(amount, 0):
        return [OUT_OF_RANGE]
    if not is_within(len(weights), 1, MOST_WEIGHTS):
        return [WRONG_FORM]
    if not all([is_within(weight, 0, GREATEST_WEIGHT) for weight in weights]):
        return [OUT_OF_RANGE]
    if sum(weights) == 0:
        return [WRONG_STATE]
    return with_row(len(weights), share_out(amount, weights))
