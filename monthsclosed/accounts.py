"""The calls on one object, handed in as one list of whole numbers and answered as another."""

from monthsclosed.account_calls import answer_account, answer_admit, answer_budget, answer_move, answer_reopen
from monthsclosed.account_calls import answer_shut
from monthsclosed.house import House
from monthsclosed.rate_calls import answer_prime, answer_rate, answer_rateof, answer_tier
from monthsclosed.rows import Reader
from monthsclosed.time_calls import answer_begin, answer_date, answer_day, answer_dayof

# Of each call by its number: how many whole numbers it has, and how many rows behind them.
FORMS = {
    0: (3, 0),
    1: (1, 0),
    2: (1, 0),
    3: (3, 0),
    4: (3, 0),
    5: (5, 0),
    6: (4, 0),
    7: (2, 0),
    8: (0, 2),
    9: (0, 2),
    10: (0, 1),
    11: (0, 1),
    12: (1, 1),
    13: (1, 1),
}


def answers(calls):
    house = House()
    reader = Reader(calls)
    answered = []
    while not reader.is_at_end():
        answer = answer_next(house, reader)
        answered.append(len(answer))
        answered.extend(answer)
    return answered


def answer_next(house, reader):
    call = reader.take_number()
    form = FORMS[call]
    numbers = reader.take(form[0])
    rows = reader.take_rows(form[1])
    if call <= 3:
        return answer_on_time(house, call, numbers)
    if call <= 7:
        return answer_on_rates(house, call, numbers)
    return answer_on_accounts(house, call, numbers, rows)


def answer_on_time(house, call, numbers):
    if call == 0:
        return answer_begin(house, numbers[0], numbers[1], numbers[2])
    if call == 1:
        return answer_day(house, numbers[0])
    if call == 2:
        return answer_date(numbers[0])
    return answer_dayof(numbers[0], numbers[1], numbers[2])


def answer_on_rates(house, call, numbers):
    if call == 4:
        return answer_prime(house, numbers[0], numbers[1], numbers[2])
    if call == 5:
        return answer_rate(house, numbers[0], numbers[1], numbers[2], numbers[3], numbers[4])
    if call == 6:
        return answer_rateof(house, numbers[0], numbers[1], numbers[2], numbers[3])
    return answer_tier(house, numbers[0], numbers[1])


def answer_on_accounts(house, call, numbers, rows):
    if call == 8:
        return answer_account(house, rows[0], rows[1])
    if call == 9:
        return answer_move(house, rows[0], rows[1])
    if call == 10:
        return answer_shut(house, rows[0])
    if call == 11:
        return answer_reopen(house, rows[0])
    if call == 12:
        return answer_budget(house, numbers[0], rows[0])
    return answer_admit(house, numbers[0], rows[0])
