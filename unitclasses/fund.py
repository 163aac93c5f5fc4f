"""The fund, its classes, and the calls on them.

A call's function gets the fund and the call's whole numbers and gives back the list of numbers answered.
It asks for every refusal first and changes the fund only behind the last of them.
"""

MOST_CLASSES = 6
MOST_START = 1000000
MOST_MONEY = 1000000000
MOST_ORDERED_UNITS = 1000000000000000000
MOST_VALUE = 1000000000000
MOST_COUNT = 1000000000000000000000000
LEAST_TIMES = 2
MOST_TIMES = 1000
FIRST_SHARES_OF_A_COIN = 1000000

NO_REFUSAL = 0
OUT_OF_RANGE = -1
NO_SUCH_CLASS = -4
TOO_LITTLE_OR_SAME = -6
MORE_THAN_THERE_IS = -7
TOO_MUCH = -8
NOTHING_TO_RECKON_BY = -9


class UnitClass:
    def __init__(self, start):
        self.start = start
        self.units = 0
        self.shares = 0


class Fund:
    def __init__(self):
        self.value = 0
        self.classes = []


def all_shares(fund):
    return sum([unit_class.shares for unit_class in fund.classes])


def shares_for_money(fund, money):
    before = all_shares(fund)
    if before == 0:
        return money * FIRST_SHARES_OF_A_COIN
    return money * before // fund.value


def units_for_shares(unit_class, shares):
    if unit_class.units == 0:
        return shares // unit_class.start
    return unit_class.units * shares // unit_class.shares


def shares_of_units(unit_class, units):
    return unit_class.shares * units // unit_class.units


def money_of_shares(fund, shares):
    return fund.value * shares // all_shares(fund)


def shares_for_cost(fund, money):
    return rounded_up(money * all_shares(fund), fund.value)


def rounded_up(dividend, divisor):
    return (dividend + divisor - 1) // divisor


def is_within(number, least, most):
    return least <= number and number <= most


def class_refusal(fund, c):
    if not is_within(c, 1, MOST_CLASSES):
        return OUT_OF_RANGE
    if c > len(fund.classes):
        return NO_SUCH_CLASS
    return NO_REFUSAL


def amount_or_class_refusal(fund, amount, least, most, c):
    if not is_within(amount, least, most):
        return OUT_OF_RANGE
    return class_refusal(fund, c)


def is_too_much_for_fund(fund, money, shares):
    return fund.value + money > MOST_VALUE or all_shares(fund) + shares > MOST_COUNT


def add_to_class(unit_class, units, shares):
    unit_class.units += units
    unit_class.shares += shares


def begin(fund):
    fund.value = 0
    fund.classes = []
    return [0]


def open_class(fund, start):
    if not is_within(start, 1, MOST_START):
        return [OUT_OF_RANGE]
    if len(fund.classes) >= MOST_CLASSES:
        return [TOO_MUCH]
    fund.classes.append(UnitClass(start))
    return [len(fund.classes)]


def create(fund, c, money):
    refusal = amount_or_class_refusal(fund, money, 1, MOST_MONEY, c)
    if refusal != NO_REFUSAL:
        return [refusal]
    if all_shares(fund) > 0 and fund.value == 0:
        return [NOTHING_TO_RECKON_BY]
    unit_class = fund.classes[c - 1]
    shares = shares_for_money(fund, money)
    units = units_for_shares(unit_class, shares)
    if units == 0:
        return [TOO_LITTLE_OR_SAME]
    if is_too_much_for_fund(fund, money, shares) or unit_class.units + units > MOST_COUNT:
        return [TOO_MUCH]
    fund.value += money
    add_to_class(unit_class, units, shares)
    return [units, shares]


def cancel(fund, c, units):
    refusal = amount_or_class_refusal(fund, units, 1, MOST_ORDERED_UNITS, c)
    if refusal != NO_REFUSAL:
        return [refusal]
    unit_class = fund.classes[c - 1]
    if unit_class.units < units:
        return [MORE_THAN_THERE_IS]
    shares = shares_of_units(unit_class, units)
    money = money_of_shares(fund, shares)
    fund.value -= money
    add_to_class(unit_class, -units, -shares)
    return [money, shares]


def result(fund, change):
    if not is_within(change, -MOST_VALUE, MOST_VALUE):
        return [OUT_OF_RANGE]
    if all_shares(fund) == 0:
        return [NOTHING_TO_RECKON_BY]
    if fund.value + change < 0:
        return [MORE_THAN_THERE_IS]
    if fund.value + change > MOST_VALUE:
        return [TOO_MUCH]
    fund.value += change
    return [fund.value]


def cost(fund, c, money):
    refusal = amount_or_class_refusal(fund, money, 1, MOST_MONEY, c)
    if refusal != NO_REFUSAL:
        return [refusal]
    if fund.value == 0:
        return [NOTHING_TO_RECKON_BY]
    unit_class = fund.classes[c - 1]
    shares = shares_for_cost(fund, money)
    # This also keeps the value above 0: a cost of all of it would take all shares of the fund.
    if shares >= unit_class.shares:
        return [MORE_THAN_THERE_IS]
    fund.value -= money
    add_to_class(unit_class, 0, -shares)
    return [shares]


def gain(fund, c, money):
    refusal = amount_or_class_refusal(fund, money, 1, MOST_MONEY, c)
    if refusal != NO_REFUSAL:
        return [refusal]
    unit_class = fund.classes[c - 1]
    if fund.value == 0 or unit_class.units == 0:
        return [NOTHING_TO_RECKON_BY]
    shares = shares_for_money(fund, money)
    if is_too_much_for_fund(fund, money, shares):
        return [TOO_MUCH]
    fund.value += money
    add_to_class(unit_class, 0, shares)
    return [shares]


def convert(fund, c, d, units):
    refusal = amount_or_class_refusal(fund, units, 1, MOST_ORDERED_UNITS, c)
    if refusal != NO_REFUSAL:
        return [refusal]
    if fund.classes[c - 1].units < units:
        return [MORE_THAN_THERE_IS]
    return hand_over(fund, c, d, units)


def join_class(fund, c, d):
    refusal = class_refusal(fund, c)
    if refusal != NO_REFUSAL:
        return [refusal]
    units = fund.classes[c - 1].units
    if units == 0:
        return [NOTHING_TO_RECKON_BY]
    # Not by convert: all of a class's units may be more than convert takes as a number.
    return hand_over(fund, c, d, units)


def hand_over(fund, c, d, units):
    refusal = class_refusal(fund, d)
    if refusal != NO_REFUSAL:
        return [refusal]
    if c == d:
        return [TOO_LITTLE_OR_SAME]
    giver = fund.classes[c - 1]
    taker = fund.classes[d - 1]
    shares = shares_of_units(giver, units)
    units_brought = units_for_shares(taker, shares)
    if units_brought == 0:
        return [TOO_LITTLE_OR_SAME]
    if taker.units + units_brought > MOST_COUNT:
        return [TOO_MUCH]
    add_to_class(giver, -units, -shares)
    add_to_class(taker, units_brought, shares)
    return [units_brought, shares]


def split_class(fund, c, times):
    refusal = amount_or_class_refusal(fund, times, LEAST_TIMES, MOST_TIMES, c)
    if refusal != NO_REFUSAL:
        return [refusal]
    unit_class = fund.classes[c - 1]
    units = unit_class.units * times
    if units > MOST_COUNT:
        return [TOO_MUCH]
    unit_class.units = units
    return [units]


CALLS = {
    0: begin,
    1: open_class,
    2: create,
    3: cancel,
    4: result,
    5: cost,
    6: gain,
    7: convert,
    8: join_class,
    9: split_class,
}

ARGUMENT_COUNTS = {0: 0, 1: 1, 2: 2, 3: 2, 4: 1, 5: 2, 6: 2, 7: 3, 8: 2, 9: 2}


def answer_call(fund, number, arguments):
    call = CALLS[number]
    if len(arguments) == 0:
        return call(fund)
    if len(arguments) == 1:
        return call(fund, arguments[0])
    if len(arguments) == 2:
        return call(fund, arguments[0], arguments[1])
    return call(fund, arguments[0], arguments[1], arguments[2])


def answers(calls):
    fund = Fund()
    answered = []
    at = 0
    while at < len(calls):
        number = calls[at]
        behind = at + 1 + ARGUMENT_COUNTS[number]
        answer = answer_call(fund, number, calls[at + 1:behind])
        answered.append(len(answer))
        answered.extend(answer)
        at = behind
    return answered
