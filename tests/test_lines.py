"""Many made-up lines against a second reckoning with exact quotients, and that nobody pays for another."""

import copy
import math
import random
import unittest
from fractions import Fraction

from tests.helper import (BEGIN, LEAST, MOST, MOST_COUNT, MOST_MONEY, MOST_ORDERED_UNITS, MOST_VALUE, ask, cancel,
                          convert, cost, create, gain, join, open_, result, split)

LINES = 400
CALLS_A_LINE = 60
RANGES = {1: (1, 10 ** 6), 2: (1, MOST_MONEY), 3: (1, MOST_ORDERED_UNITS), 4: (-MOST_VALUE, MOST_VALUE),
          5: (1, MOST_MONEY), 6: (1, MOST_MONEY), 7: (1, MOST_ORDERED_UNITS), 9: (2, 1000)}
# New ones, and such whose units or shares are near the most that there may be.
BEGINNINGS = ([open_(1), open_(7)],
              [open_(1000), open_(1000000)],
              [open_(1), open_(3), create(1, 5), create(2, 7)] + [split(1, 1000)] * 5 + [split(1, 150)],
              [open_(1), open_(3), create(2, 10 ** 9), create(1, 10 ** 9), result(1 - 2 * 10 ** 9), create(1, 10 ** 8)])

ALL_REFUSALS = [(1, -1), (1, -8),
                (2, -1), (2, -4), (2, -9), (2, -6), (2, -8),
                (3, -1), (3, -4), (3, -7),
                (4, -1), (4, -9), (4, -7), (4, -8),
                (5, -1), (5, -4), (5, -9), (5, -7),
                (6, -1), (6, -4), (6, -9), (6, -8),
                (7, -1), (7, -4), (7, -7), (7, -6), (7, -8),
                (8, -1), (8, -4), (8, -9), (8, -6), (8, -8),
                (9, -1), (9, -4), (9, -8)]


class Refused(Exception):
    pass


def refuse_if(condition, number):
    if condition:
        raise Refused(number)


class Reckoning:
    """The document's words once more, written apart from the program. Classes are [units, shares, start]."""

    def __init__(self):
        self.value = 0
        self.classes = []

    def all_shares(self):
        return sum(shares for units, shares, start in self.classes)

    def answer(self, call):
        kept = (self.value, [list(one) for one in self.classes])
        try:
            number, numbers = call[0], call[1:]
            if number in RANGES:
                low, high = RANGES[number]
                refuse_if(not low <= numbers[-1] <= high, -1)
            found = getattr(self, f"call_{number}")(*numbers)
            self.refuse_too_much()
            return found
        except Refused as refusal:
            self.value, self.classes = kept
            return [refusal.args[0]]

    def refuse_too_much(self):
        # In this reckoning the call is done first and taken back: what was within the bounds before, it made greater.
        refuse_if(self.value > MOST_VALUE or self.all_shares() > MOST_COUNT, -8)
        refuse_if(any(units > MOST_COUNT for units, shares, start in self.classes) or len(self.classes) > 6, -8)

    def find(self, c):
        refuse_if(c not in (1, 2, 3, 4, 5, 6), -1)
        refuse_if(len(self.classes) < c, -4)
        return self.classes[c - 1]

    def share_price(self):
        return Fraction(self.value, self.all_shares()) if self.all_shares() else Fraction(1, 10 ** 6)

    @staticmethod
    def unit_shares(one):
        return Fraction(one[1], one[0]) if one[0] else Fraction(one[2])

    def call_0(self):
        self.value, self.classes = 0, []
        return [0]

    def call_1(self, start):
        self.classes.append([0, 0, start])
        return [len(self.classes)]

    def call_2(self, c, m):
        one = self.find(c)
        refuse_if(self.share_price() == 0, -9)
        shares = math.floor(m / self.share_price())
        units = math.floor(shares / self.unit_shares(one))
        refuse_if(units == 0, -6)
        one[0], one[1], self.value = one[0] + units, one[1] + shares, self.value + m
        return [units, shares]

    def call_3(self, c, u):
        one = self.find(c)
        refuse_if(u > one[0], -7)
        shares = math.floor(u * self.unit_shares(one))
        money = math.floor(shares * self.share_price())
        one[0], one[1], self.value = one[0] - u, one[1] - shares, self.value - money
        return [money, shares]

    def call_4(self, r):
        refuse_if(self.all_shares() == 0, -9)
        refuse_if(self.value + r < 0, -7)
        self.value += r
        return [self.value]

    def call_5(self, c, m):
        one = self.find(c)
        refuse_if(self.value == 0, -9)
        shares = math.ceil(m / self.share_price())
        refuse_if(shares >= one[1], -7)
        one[1], self.value = one[1] - shares, self.value - m
        return [shares]

    def call_6(self, c, m):
        one = self.find(c)
        refuse_if(self.value == 0 or one[0] == 0, -9)
        shares = math.floor(m / self.share_price())
        one[1], self.value = one[1] + shares, self.value + m
        return [shares]

    def call_7(self, c, d, u):
        one = self.find(c)
        refuse_if(u > one[0], -7)
        other = self.find(d)
        refuse_if(c == d, -6)
        shares = math.floor(u * self.unit_shares(one))
        units = math.floor(shares / self.unit_shares(other))
        refuse_if(units == 0, -6)
        one[0], one[1], other[0], other[1] = one[0] - u, one[1] - shares, other[0] + units, other[1] + shares
        return [units, shares]

    def call_8(self, c, d):
        refuse_if(self.find(c)[0] == 0, -9)
        return self.call_7(c, d, self.find(c)[0])

    def call_9(self, c, k):
        one = self.find(c)
        one[0] *= k
        return [one[0]]


class Ledger:
    """The fund as the answers alone tell it: nothing is reckoned here but sums."""

    def __init__(self):
        self.value = 0
        self.units = []
        self.shares = []

    def add(self, c, units, shares, value):
        self.units[c - 1] += units
        self.shares[c - 1] += shares
        self.value += value

    def enter(self, call, answer):
        number, numbers = call[0], call[1:]
        if number == 0:
            self.__init__()
        elif number == 1:
            self.units.append(0)
            self.shares.append(0)
        elif number == 2:
            self.add(numbers[0], answer[0], answer[1], numbers[1])
        elif number == 3:
            self.add(numbers[0], -numbers[1], -answer[1], -answer[0])
        elif number == 4:
            self.value = answer[0]
        elif number == 5:
            self.add(numbers[0], 0, -answer[0], -numbers[1])
        elif number == 6:
            self.add(numbers[0], 0, answer[0], numbers[1])
        elif number in (7, 8):
            gone = numbers[2] if number == 7 else self.units[numbers[0] - 1]
            self.add(numbers[0], -gone, -answer[1], 0)
            self.add(numbers[1], answer[0], answer[1], 0)
        else:
            self.units[numbers[0] - 1] = answer[0]

    def unit_worths(self):
        """What a unit of each class that has some is worth."""
        return {c: Fraction(self.value * shares, sum(self.shares) * units)
                for c, (units, shares) in enumerate(zip(self.units, self.shares), start=1) if units}


def some_number(source, low, high):
    odd = source.random()
    if odd < 0.03:
        return source.choice((LEAST, -1, 0, low - 1, high + 1, MOST))
    if odd < 0.1:
        return source.choice((low, high))
    return min(high, max(low, source.randrange(10 ** source.randint(0, len(str(high))))))


def some_units(source, reckoning, c):
    if 1 <= c <= len(reckoning.classes) and source.random() < 0.9:
        units = reckoning.classes[c - 1][0]
        wanted = source.choice((1, units, units + 1, units - 1, units // 2, source.randint(0, units)))
        return min(wanted, MOST)
    return some_number(source, 1, MOST_ORDERED_UNITS)


def some_result(source, reckoning):
    value = reckoning.value
    return source.choice((-value, -value - 1, 1 - value, MOST_VALUE - value, MOST_VALUE + 1 - value, -(value // 2),
                          source.randint(-value, value + 1), some_number(source, -MOST_VALUE, MOST_VALUE)))


def some_class(source, reckoning):
    if source.random() < 0.05:
        return source.choice((LEAST, -1, 0, 6, 7, MOST))
    return source.randint(1, max(1, len(reckoning.classes) + (source.random() < 0.1)))


def some_call(source, reckoning):
    c, d = some_class(source, reckoning), some_class(source, reckoning)
    money = some_number(source, 1, MOST_MONEY)
    chance = source.random()
    if chance < 0.005:
        return BEGIN
    if chance < 0.1:
        return open_(some_number(source, 1, 10 ** 6))
    if chance < 0.15:
        return split(c, some_number(source, 2, 1000))
    if chance < 0.2:
        return join(c, d)
    if chance < 0.35:
        return result(some_result(source, reckoning))
    units = some_units(source, reckoning, c)
    return source.choice((create(c, money), create(d, money), cancel(c, units), cost(c, money), gain(c, money),
                          cost(c, 1 + money % (reckoning.value + 1)), convert(c, d, units), convert(c, d, units)))


def made_up_line(seed):
    """Calls, and the answers reckoned for them."""
    source = random.Random(seed)
    reckoning = Reckoning()
    beginning = source.choice(BEGINNINGS)
    calls, found = [], []
    while len(calls) < CALLS_A_LINE:
        call = beginning[len(calls)] if len(calls) < len(beginning) else some_call(source, reckoning)
        calls.append(call)
        found.append(reckoning.answer(call))
    return calls, found


class Lines(unittest.TestCase):
    def test_the_program_answers_as_reckoned(self):
        answered, refused = {}, {}
        for seed in range(LINES):
            calls, found = made_up_line(seed)
            self.assertEqual(ask(*calls), found, f"seed {seed}: {calls}")
            for call, answer in zip(calls, found):
                counted = refused if answer[0] < 0 else answered
                key = (call[0], answer[0]) if answer[0] < 0 else call[0]
                counted[key] = counted.get(key, 0) + 1
        # The lines are worth something only if every call went through often, and was refused in every way.
        self.assertEqual(sorted(answered), list(range(10)))
        self.assertGreater(min(answered.values()), 50)
        self.assertEqual(sorted(refused), sorted(ALL_REFUSALS))

    def each_answered(self):
        """Each call that was not refused, with the ledger ahead of it and behind it."""
        for seed in range(LINES):
            calls = made_up_line(seed)[0]
            ledger = Ledger()
            for call, answer in zip(calls, ask(*calls)):
                if answer[0] >= 0:
                    before = copy.deepcopy(ledger)
                    ledger.enter(call, answer)
                    yield call, before, ledger

    def test_no_order_lowers_what_another_s_unit_is_worth(self):
        for call, before, behind in self.each_answered():
            if call[0] in (2, 3, 5, 6, 7, 8):
                worths = behind.unit_worths()
                for c, worth in before.unit_worths().items():
                    is_charged = call[0] == 5 and call[1] == c
                    if c in worths and not is_charged:
                        self.assertGreaterEqual(worths[c], worth, call)

    def test_what_always_holds(self):
        for call, before, behind in self.each_answered():
            self.assertTrue(0 <= behind.value <= MOST_VALUE, call)
            self.assertTrue(behind.value == 0 or sum(behind.shares) > 0, call)
            self.assertLessEqual(sum(behind.shares), MOST_COUNT, call)
            for units, shares in zip(behind.units, behind.shares):
                self.assertTrue(0 <= units <= MOST_COUNT and 0 <= shares, call)
                self.assertEqual(units > 0, shares > 0, call)


if __name__ == "__main__":
    unittest.main()
