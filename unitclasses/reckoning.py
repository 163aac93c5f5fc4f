"""What there is in a fund, and how shares, units, money and values are reckoned from one another.

Nothing here refuses: who asks for a quotient has seen to it that its divisor is above 0.
"""

FIRST_SHARES_OF_A_COIN = 1000000
# Rates are in millionths a year.
MILLIONTHS_TIMES_DAYS_OF_A_YEAR = 365000000


class UnitClass:
    def __init__(self, start):
        self.start = start
        self.units = 0
        self.shares = 0


class Fund:
    def __init__(self):
        self.value = 0
        self.classes = []


def all_shares(fund):
    return sum([unit_class.shares for unit_class in fund.classes])


def shares_for_money(fund, money):
    before = all_shares(fund)
    if before == 0:
        return money * FIRST_SHARES_OF_A_COIN
    return money * before // fund.value


def units_for_shares(unit_class, shares):
    if unit_class.units == 0:
        return shares // unit_class.start
    return unit_class.units * shares // unit_class.shares


def shares_of_units(unit_class, units):
    return unit_class.shares * units // unit_class.units


def money_of_shares(fund, shares):
    return fund.value * shares // all_shares(fund)


def shares_for_cost(fund, money):
    return rounded_up(money * all_shares(fund), fund.value)


def rounded_up(dividend, divisor):
    return (dividend + divisor - 1) // divisor


def values_of_classes(fund):
    divisor = all_shares(fund)
    if divisor == 0:
        return [0 for unit_class in fund.classes]
    dividends = [fund.value * unit_class.shares for unit_class in fund.classes]
    found = [dividend // divisor for dividend in dividends]
    left = fund.value - sum(found)
    # Of the same remainder the lesser class number stays ahead: sorted keeps the order of what is equal.
    ranked = sorted(range(len(dividends)), key=lambda k: -(dividends[k] % divisor))
    for place in ranked[:left]:
        found[place] += 1
    return found


def owed_by_classes(fund, rate, days):
    divisor = all_shares(fund) * MILLIONTHS_TIMES_DAYS_OF_A_YEAR
    if divisor == 0:
        return [0 for unit_class in fund.classes]
    return [fund.value * unit_class.shares * rate * days // divisor for unit_class in fund.classes]


def copy_of_class(unit_class):
    copied = UnitClass(unit_class.start)
    copied.units = unit_class.units
    copied.shares = unit_class.shares
    return copied


def copy_of_fund(fund):
    copied = Fund()
    copied.value = fund.value
    copied.classes = [copy_of_class(unit_class) for unit_class in fund.classes]
    return copied
