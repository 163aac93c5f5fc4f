"""The calls on a fund, and the answers to a line of them.

A call's function gets the fund and the call's whole numbers and gives back the list of numbers answered.
It asks for every refusal first and changes the fund only behind the last of them.
"""

from unitclasses.reckoning import (
    Fund, UnitClass, all_shares, copy_of_fund, money_of_shares, owed_by_classes, rounded_up, shares_for_cost,
    shares_for_money, shares_of_units, units_for_shares, values_of_classes,
)

MOST_CLASSES = 6
MOST_START = 1000000
MOST_MONEY = 1000000000
MOST_ORDERED_UNITS = 1000000000000000000
MOST_VALUE = 1000000000000
MOST_COUNT = 1000000000000000000000000
LEAST_TIMES = 2
MOST_TIMES = 1000
MOST_RATE = 100000
MOST_DAYS = 366
# A whole unit is a million units, and its price is told in millionths of a coin.
PRICE_SCALE = 1000000000000

NO_REFUSAL = 0
OUT_OF_RANGE = -1
NO_SUCH_CLASS = -4
TOO_LITTLE_OR_SAME = -6
MORE_THAN_THERE_IS = -7
TOO_MUCH = -8
NOTHING_TO_RECKON_BY = -9

NEITHER_IS_DEARER = 0
FIRST_IS_DEARER = 1
SECOND_IS_DEARER = 2


def is_within(number, least, most):
    return least <= number and number <= most


def class_refusal(fund, c):
    if not is_within(c, 1, MOST_CLASSES):
        return OUT_OF_RANGE
    if c > len(fund.classes):
        return NO_SUCH_CLASS
    return NO_REFUSAL


def amount_or_class_refusal(fund, amount, least, most, c):
    if not is_within(amount, least, most):
        return OUT_OF_RANGE
    return class_refusal(fund, c)


def units_or_class_refusal(fund, units, least, c):
    refusal = amount_or_class_refusal(fund, units, least, MOST_ORDERED_UNITS, c)
    if refusal == NO_REFUSAL and fund.classes[c - 1].units < units:
        return MORE_THAN_THERE_IS
    return refusal


def is_rate_for_days(rate, days):
    return is_within(rate, 0, MOST_RATE) and is_within(days, 1, MOST_DAYS)


def is_too_much_for_fund(fund, money, shares):
    return fund.value + money > MOST_VALUE or all_shares(fund) + shares > MOST_COUNT


def add_to_class(unit_class, units, shares):
    unit_class.units += units
    unit_class.shares += shares


def begin(fund):
    fund.value = 0
    fund.classes = []
    return [0]


def open_class(fund, start):
    if not is_within(start, 1, MOST_START):
        return [OUT_OF_RANGE]
    if len(fund.classes) >= MOST_CLASSES:
        return [TOO_MUCH]
    fund.classes.append(UnitClass(start))
    return [len(fund.classes)]


def create(fund, c, money):
    refusal = amount_or_class_refusal(fund, money, 1, MOST_MONEY, c)
    if refusal != NO_REFUSAL:
        return [refusal]
    if all_shares(fund) > 0 and fund.value == 0:
        return [NOTHING_TO_RECKON_BY]
    unit_class = fund.classes[c - 1]
    shares = shares_for_money(fund, money)
    units = units_for_shares(unit_class, shares)
    if units == 0:
        return [TOO_LITTLE_OR_SAME]
    if is_too_much_for_fund(fund, money, shares) or unit_class.units + units > MOST_COUNT:
        return [TOO_MUCH]
    fund.value += money
    add_to_class(unit_class, units, shares)
    return [units, shares]


def cancel(fund, c, units):
    refusal = units_or_class_refusal(fund, units, 1, c)
    if refusal != NO_REFUSAL:
        return [refusal]
    unit_class = fund.classes[c - 1]
    shares = shares_of_units(unit_class, units)
    money = money_of_shares(fund, shares)
    fund.value -= money
    add_to_class(unit_class, -units, -shares)
    return [money, shares]


def result(fund, change):
    if not is_within(change, -MOST_VALUE, MOST_VALUE):
        return [OUT_OF_RANGE]
    if all_shares(fund) == 0:
        return [NOTHING_TO_RECKON_BY]
    if fund.value + change < 0:
        return [MORE_THAN_THERE_IS]
    if fund.value + change > MOST_VALUE:
        return [TOO_MUCH]
    fund.value += change
    return [fund.value]


def cost(fund, c, money):
    refusal = amount_or_class_refusal(fund, money, 1, MOST_MONEY, c)
    if refusal != NO_REFUSAL:
        return [refusal]
    if fund.value == 0:
        return [NOTHING_TO_RECKON_BY]
    unit_class = fund.classes[c - 1]
    shares = shares_for_cost(fund, money)
    # This also keeps the value above 0: a cost of all of it would take all shares of the fund.
    if shares >= unit_class.shares:
        return [MORE_THAN_THERE_IS]
    fund.value -= money
    add_to_class(unit_class, 0, -shares)
    return [shares]


def gain(fund, c, money):
    refusal = amount_or_class_refusal(fund, money, 1, MOST_MONEY, c)
    if refusal != NO_REFUSAL:
        return [refusal]
    unit_class = fund.classes[c - 1]
    if fund.value == 0 or unit_class.units == 0:
        return [NOTHING_TO_RECKON_BY]
    shares = shares_for_money(fund, money)
    if is_too_much_for_fund(fund, money, shares):
        return [TOO_MUCH]
    fund.value += money
    add_to_class(unit_class, 0, shares)
    return [shares]


def convert(fund, c, d, units):
    refusal = units_or_class_refusal(fund, units, 1, c)
    if refusal != NO_REFUSAL:
        return [refusal]
    return hand_over(fund, c, d, units)


def join_class(fund, c, d):
    refusal = class_refusal(fund, c)
    if refusal != NO_REFUSAL:
        return [refusal]
    units = fund.classes[c - 1].units
    if units == 0:
        return [NOTHING_TO_RECKON_BY]
    # Not by convert: all of a class's units may be more than convert takes as a number.
    return hand_over(fund, c, d, units)


def hand_over(fund, c, d, units):
    refusal = class_refusal(fund, d)
    if refusal != NO_REFUSAL:
        return [refusal]
    if c == d:
        return [TOO_LITTLE_OR_SAME]
    giver = fund.classes[c - 1]
    taker = fund.classes[d - 1]
    shares = shares_of_units(giver, units)
    units_brought = units_for_shares(taker, shares)
    if units_brought == 0:
        return [TOO_LITTLE_OR_SAME]
    if taker.units + units_brought > MOST_COUNT:
        return [TOO_MUCH]
    add_to_class(giver, -units, -shares)
    add_to_class(taker, units_brought, shares)
    return [units_brought, shares]


def split_class(fund, c, times):
    refusal = amount_or_class_refusal(fund, times, LEAST_TIMES, MOST_TIMES, c)
    if refusal != NO_REFUSAL:
        return [refusal]
    unit_class = fund.classes[c - 1]
    units = unit_class.units * times
    if units > MOST_COUNT:
        return [TOO_MUCH]
    unit_class.units = units
    return [units]


def fee(fund, rate, days):
    if not is_rate_for_days(rate, days):
        return [OUT_OF_RANGE]
    # Where there are no shares the value is 0, too.
    if fund.value == 0:
        return [NOTHING_TO_RECKON_BY]
    amounts = owed_by_classes(fund, rate, days)
    parts = [shares_for_cost(fund, amount) for amount in amounts]
    for unit_class, shares in zip(fund.classes, parts):
        if unit_class.units > 0 and shares >= unit_class.shares:
            return [MORE_THAN_THERE_IS]
    for unit_class, shares in zip(fund.classes, parts):
        add_to_class(unit_class, 0, -shares)
    fund.value -= sum(amounts)
    return amounts


def class_values(fund):
    if len(fund.classes) == 0:
        return [NOTHING_TO_RECKON_BY]
    return values_of_classes(fund)


def price(fund, c):
    refusal = class_refusal(fund, c)
    if refusal != NO_REFUSAL:
        return [refusal]
    unit_class = fund.classes[c - 1]
    if unit_class.units == 0:
        return [NOTHING_TO_RECKON_BY]
    dividend = fund.value * unit_class.shares * PRICE_SCALE
    divisor = all_shares(fund) * unit_class.units
    return [dividend // divisor, rounded_up(dividend, divisor)]


def worth(fund, c, units):
    refusal = units_or_class_refusal(fund, units, 0, c)
    if refusal != NO_REFUSAL:
        return [refusal]
    unit_class = fund.classes[c - 1]
    if unit_class.units == 0:
        return [0]
    # Not by shares_of_units and money_of_shares: a worth is rounded only once.
    return [fund.value * unit_class.shares * units // (all_shares(fund) * unit_class.units)]


def class_state(fund, c):
    refusal = class_refusal(fund, c)
    if refusal != NO_REFUSAL:
        return [refusal]
    unit_class = fund.classes[c - 1]
    return [unit_class.units, unit_class.shares, unit_class.start]


def fund_state(fund):
    return [fund.value, all_shares(fund), len(fund.classes)]


def would_create(fund, c, money):
    return create(copy_of_fund(fund), c, money)


def would_cancel(fund, c, units):
    return cancel(copy_of_fund(fund), c, units)


def dearer(fund, c, d):
    for number in [c, d]:
        refusal = class_refusal(fund, number)
        if refusal != NO_REFUSAL:
            return [refusal]
    first = fund.classes[c - 1]
    second = fund.classes[d - 1]
    if first.units == 0 or second.units == 0:
        return [NOTHING_TO_RECKON_BY]
    # The quotients are compared by their cross products, so that nothing is rounded.
    of_first = first.shares * second.units
    of_second = second.shares * first.units
    if of_first > of_second:
        return [FIRST_IS_DEARER]
    if of_second > of_first:
        return [SECOND_IS_DEARER]
    return [NEITHER_IS_DEARER]


def owed(fund, rate, days):
    if not is_rate_for_days(rate, days):
        return [OUT_OF_RANGE]
    if len(fund.classes) == 0:
        return [NOTHING_TO_RECKON_BY]
    return owed_by_classes(fund, rate, days)


CALLS = {
    0: begin,
    1: open_class,
    2: create,
    3: cancel,
    4: result,
    5: cost,
    6: gain,
    7: convert,
    8: join_class,
    9: split_class,
    10: fee,
    11: class_values,
    12: price,
    13: worth,
    14: class_state,
    15: fund_state,
    16: would_create,
    17: would_cancel,
    18: dearer,
    19: owed,
}

ARGUMENT_COUNTS = {
    0: 0, 1: 1, 2: 2, 3: 2, 4: 1, 5: 2, 6: 2, 7: 3, 8: 2, 9: 2,
    10: 2, 11: 0, 12: 1, 13: 2, 14: 1, 15: 0, 16: 2, 17: 2, 18: 2, 19: 2,
}


def answer_call(fund, number, arguments):
    call = CALLS[number]
    if len(arguments) == 0:
        return call(fund)
    if len(arguments) == 1:
        return call(fund, arguments[0])
    if len(arguments) == 2:
        return call(fund, arguments[0], arguments[1])
    return call(fund, arguments[0], arguments[1], arguments[2])


def answers(calls):
    fund = Fund()
    answered = []
    at = 0
    while at < len(calls):
        number = calls[at]
        behind = at + 1 + ARGUMENT_COUNTS[number]
        answer = answer_call(fund, number, calls[at + 1:behind])
        answered.append(len(answer))
        answered.extend(answer)
        at = behind
    return answered
