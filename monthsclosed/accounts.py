"""The calls on one object, handed in as one list of whole numbers and answered as another."""

from monthsclosed.account_calls import answer_account, answer_admit, answer_budget, answer_children, answer_move
from monthsclosed.account_calls import answer_path, answer_reopen, answer_shut
from monthsclosed.entry_calls import answer_charge, answer_credit, answer_entry, answer_overhead, answer_statement
from monthsclosed.house import House
from monthsclosed.month_calls import answer_invoice, answer_month, answer_spent, answer_split, answer_total
from monthsclosed.rate_calls import answer_price, answer_prime, answer_rate, answer_rateof, answer_tier
from monthsclosed.rows import Reader
from monthsclosed.time_calls import answer_begin, answer_date, answer_day, answer_dayof, answer_when
from monthsclosed.work import Work

# Of each call by its number: how many whole numbers it has, and how many rows behind them.
FORMS = {
    0: (3, 0),
    1: (1, 0),
    2: (1, 0),
    3: (3, 0),
    4: (3, 0),
    5: (5, 0),
    6: (4, 0),
    7: (2, 0),
    8: (0, 2),
    9: (0, 2),
    10: (0, 1),
    11: (0, 1),
    12: (1, 1),
    13: (1, 1),
    14: (4, 1),
    15: (4, 2),
    16: (2, 0),
    17: (1, 1),
    18: (0, 0),
    19: (1, 1),
    20: (1, 1),
    21: (1, 0),
    22: (1, 0),
    23: (3, 1),
    24: (0, 1),
    25: (0, 1),
    26: (1, 1),
    27: (0, 0),
}
CALLS_ON_TIME = (0, 1, 2, 3, 27)
CALLS_ON_RATES = (4, 5, 6, 7, 14)
CALLS_ON_ACCOUNTS = (8, 9, 10, 11, 12, 13, 24, 25)
CALLS_ON_ENTRIES = (15, 16, 17, 22, 23)


def answers(calls):
    house = House()
    reader = Reader(calls)
    answered = []
    while not reader.is_at_end():
        answer = answer_next(house, reader)
        answered.append(len(answer))
        answered.extend(answer)
    return answered


def answer_next(house, reader):
    call = reader.take_number()
    form = FORMS[call]
    numbers = reader.take(form[0])
    rows = reader.take_rows(form[1])
    if call in CALLS_ON_TIME:
        return answer_on_time(house, call, numbers)
    if call in CALLS_ON_RATES:
        return answer_on_rates(house, call, numbers, rows)
    if call in CALLS_ON_ACCOUNTS:
        return answer_on_accounts(house, call, numbers, rows)
    if call in CALLS_ON_ENTRIES:
        return answer_on_entries(house, call, numbers, rows)
    return answer_on_months(house, call, numbers, rows)


def answer_on_time(house, call, numbers):
    if call == 0:
        return answer_begin(house, numbers[0], numbers[1], numbers[2])
    if call == 1:
        return answer_day(house, numbers[0])
    if call == 2:
        return answer_date(numbers[0])
    if call == 3:
        return answer_dayof(numbers[0], numbers[1], numbers[2])
    return answer_when(house)


def answer_on_rates(house, call, numbers, rows):
    if call == 4:
        return answer_prime(house, numbers[0], numbers[1], numbers[2])
    if call == 5:
        return answer_rate(house, numbers[0], numbers[1], numbers[2], numbers[3], numbers[4])
    if call == 6:
        return answer_rateof(house, numbers[0], numbers[1], numbers[2], numbers[3])
    if call == 7:
        return answer_tier(house, numbers[0], numbers[1])
    return answer_price(house, Work(numbers[0], numbers[1], numbers[2], numbers[3], rows[0]))


def answer_on_accounts(house, call, numbers, rows):
    if call == 8:
        return answer_account(house, rows[0], rows[1])
    if call == 9:
        return answer_move(house, rows[0], rows[1])
    if call == 10:
        return answer_shut(house, rows[0])
    if call == 11:
        return answer_reopen(house, rows[0])
    if call == 12:
        return answer_budget(house, numbers[0], rows[0])
    if call == 13:
        return answer_admit(house, numbers[0], rows[0])
    if call == 24:
        return answer_children(house, rows[0])
    return answer_path(house, rows[0])


def answer_on_entries(house, call, numbers, rows):
    if call == 15:
        return answer_charge(house, Work(numbers[0], numbers[1], numbers[2], numbers[3], rows[1]), rows[0])
    if call == 16:
        return answer_credit(house, numbers[0], numbers[1])
    if call == 17:
        return answer_overhead(house, numbers[0], rows[0])
    if call == 22:
        return answer_entry(house, numbers[0])
    return answer_statement(house, numbers[0], numbers[1], numbers[2], rows[0])


def answer_on_months(house, call, numbers, rows):
    if call == 18:
        return answer_month(house)
    if call == 19:
        return answer_spent(house, numbers[0], rows[0])
    if call == 20:
        return answer_invoice(house, numbers[0], rows[0])
    if call == 21:
        return answer_total(house, numbers[0])
    return answer_split(numbers[0], rows[0])
