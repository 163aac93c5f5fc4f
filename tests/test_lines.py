"""Many made-up lines against a second reckoning with exact quotients, and that nobody pays for another."""

import copy
import itertools
import math
import random
import unittest
from fractions import Fraction

from tests.helper import (BEGIN, FUND_STATE, LEAST, MOST, MOST_COUNT, MOST_DAYS, MOST_MONEY, MOST_ORDERED_UNITS,
                          MOST_RATE, MOST_VALUE, VALUES, ask, cancel, class_, convert, cost, create, dearer, fee, gain,
                          join, open_, owed, price, result, split, worth, wouldcancel, wouldcreate, written)
from unitclasses.fund import answers

LINES = 500
# Behind each call the fund and up to 6 classes are asked for, which makes 400 calls.
CALLS_A_LINE = 50
LONG_LINES = 25
CALLS_A_LONG_LINE = 400
# Of the last numbers of a call: the least and the most.
RANGES = {1: [(1, 10 ** 6)], 2: [(1, MOST_MONEY)], 3: [(1, MOST_ORDERED_UNITS)], 4: [(-MOST_VALUE, MOST_VALUE)],
          5: [(1, MOST_MONEY)], 6: [(1, MOST_MONEY)], 7: [(1, MOST_ORDERED_UNITS)], 9: [(2, 1000)],
          10: [(0, MOST_RATE), (1, MOST_DAYS)], 13: [(0, MOST_ORDERED_UNITS)], 19: [(0, MOST_RATE), (1, MOST_DAYS)]}
# New ones; such whose units or shares are near the most that there may be; dear shares, of which classes have few.
BEGINNINGS = ([],
              [open_(1), open_(7)],
              [open_(1000), open_(1000000)],
              [open_(1), open_(3), create(1, 5), create(2, 7)] + [split(1, 1000)] * 5 + [split(1, 150)],
              [open_(1), open_(3), create(2, 10 ** 9), create(1, 10 ** 9), result(1 - 2 * 10 ** 9), create(1, 10 ** 8)],
              [open_(1), open_(1), open_(1), create(1, 1), convert(1, 2, 1), convert(1, 3, 2), result(10 ** 11)])

ALL_REFUSALS = [(1, -1), (1, -8),
                (2, -1), (2, -4), (2, -9), (2, -6), (2, -8),
                (3, -1), (3, -4), (3, -7),
                (4, -1), (4, -9), (4, -7), (4, -8),
                (5, -1), (5, -4), (5, -9), (5, -7),
                (6, -1), (6, -4), (6, -9), (6, -8),
                (7, -1), (7, -4), (7, -7), (7, -6), (7, -8),
                (8, -1), (8, -4), (8, -9), (8, -6), (8, -8),
                (9, -1), (9, -4), (9, -8),
                (10, -1), (10, -9), (10, -7),
                (11, -9),
                (12, -1), (12, -4), (12, -9),
                (13, -1), (13, -4), (13, -7),
                (14, -1), (14, -4),
                (16, -1), (16, -4), (16, -9), (16, -6), (16, -8),
                (17, -1), (17, -4), (17, -7),
                (18, -1), (18, -4), (18, -9),
                (19, -1), (19, -9)]


class Refused(Exception):
    pass


def refuse_if(condition, number):
    if condition:
        raise Refused(number)


class Reckoning:
    """The document's words once more, written apart from the program. Classes are [units, shares, start]."""

    def __init__(self):
        self.value = 0
        self.classes = []

    def all_shares(self):
        return sum(shares for units, shares, start in self.classes)

    def answer(self, call):
        kept = (self.value, [list(one) for one in self.classes])
        try:
            number, numbers = call[0], call[1:]
            ranges = RANGES.get(number, [])
            for (low, high), given in zip(reversed(ranges), reversed(numbers)):
                refuse_if(not low <= given <= high, -1)
            found = getattr(self, f"call_{number}")(*numbers)
            self.refuse_too_much()
            return found
        except Refused as refusal:
            self.value, self.classes = kept
            return [refusal.args[0]]

    def refuse_too_much(self):
        # In this reckoning the call is done first and taken back: what was within the bounds before, it made greater.
        refuse_if(self.value > MOST_VALUE or self.all_shares() > MOST_COUNT, -8)
        refuse_if(any(units > MOST_COUNT for units, shares, start in self.classes) or len(self.classes) > 6, -8)

    def find(self, c):
        refuse_if(c not in (1, 2, 3, 4, 5, 6), -1)
        refuse_if(len(self.classes) < c, -4)
        return self.classes[c - 1]

    def share_price(self):
        return Fraction(self.value, self.all_shares()) if self.all_shares() else Fraction(1, 10 ** 6)

    @staticmethod
    def unit_shares(one):
        return Fraction(one[1], one[0]) if one[0] else Fraction(one[2])

    def call_0(self):
        self.value, self.classes = 0, []
        return [0]

    def call_1(self, start):
        self.classes.append([0, 0, start])
        return [len(self.classes)]

    def call_2(self, c, m):
        one = self.find(c)
        refuse_if(self.share_price() == 0, -9)
        shares = math.floor(m / self.share_price())
        units = math.floor(shares / self.unit_shares(one))
        refuse_if(units == 0, -6)
        one[0], one[1], self.value = one[0] + units, one[1] + shares, self.value + m
        return [units, shares]

    def call_3(self, c, u):
        one = self.find(c)
        refuse_if(u > one[0], -7)
        shares = math.floor(u * self.unit_shares(one))
        money = math.floor(shares * self.share_price())
        one[0], one[1], self.value = one[0] - u, one[1] - shares, self.value - money
        return [money, shares]

    def call_4(self, r):
        refuse_if(self.all_shares() == 0, -9)
        refuse_if(self.value + r < 0, -7)
        self.value += r
        return [self.value]

    def call_5(self, c, m):
        one = self.find(c)
        refuse_if(self.value == 0, -9)
        shares = math.ceil(m / self.share_price())
        refuse_if(shares >= one[1], -7)
        one[1], self.value = one[1] - shares, self.value - m
        return [shares]

    def call_6(self, c, m):
        one = self.find(c)
        refuse_if(self.value == 0 or one[0] == 0, -9)
        shares = math.floor(m / self.share_price())
        one[1], self.value = one[1] + shares, self.value + m
        return [shares]

    def call_7(self, c, d, u):
        one = self.find(c)
        refuse_if(u > one[0], -7)
        other = self.find(d)
        refuse_if(c == d, -6)
        shares = math.floor(u * self.unit_shares(one))
        units = math.floor(shares / self.unit_shares(other))
        refuse_if(units == 0, -6)
        one[0], one[1], other[0], other[1] = one[0] - u, one[1] - shares, other[0] + units, other[1] + shares
        return [units, shares]

    def call_8(self, c, d):
        refuse_if(self.find(c)[0] == 0, -9)
        return self.call_7(c, d, self.find(c)[0])

    def call_9(self, c, k):
        one = self.find(c)
        one[0] *= k
        return [one[0]]

    def unit_worth(self, one):
        return self.share_price() * self.unit_shares(one)

    def debts(self, rate, days):
        part = Fraction(rate, 10 ** 6) * Fraction(days, 365)
        return [math.floor(self.share_price() * shares * part) for units, shares, start in self.classes]

    def call_10(self, rate, days):
        refuse_if(self.value == 0 or self.all_shares() == 0, -9)
        debts = self.debts(rate, days)
        share_price = self.share_price()
        for one, debt in zip(self.classes, debts):
            one[1] -= math.ceil(debt / share_price)
            refuse_if(one[0] > 0 and one[1] <= 0, -7)
            self.value -= debt
        return debts

    def call_11(self):
        refuse_if(not self.classes, -9)
        exact = [self.share_price() * shares for units, shares, start in self.classes]
        given = [math.floor(part) for part in exact]
        waiting = list(range(len(exact)))
        while sum(given) < self.value:
            nearest = max(waiting, key=lambda at: (exact[at] - math.floor(exact[at]), -at))
            waiting.remove(nearest)
            given[nearest] += 1
        return given

    def call_12(self, c):
        one = self.find(c)
        refuse_if(one[0] == 0, -9)
        whole = self.unit_worth(one) * 10 ** 12
        return [math.floor(whole), math.ceil(whole)]

    def call_13(self, c, u):
        one = self.find(c)
        refuse_if(u > one[0], -7)
        return [math.floor(self.unit_worth(one) * u)]

    def call_14(self, c):
        return list(self.find(c))

    def call_15(self):
        return [self.value, self.all_shares(), len(self.classes)]

    def call_16(self, c, m):
        return copy.deepcopy(self).answer(create(c, m))

    def call_17(self, c, u):
        return copy.deepcopy(self).answer(cancel(c, u))

    def call_18(self, c, d):
        one, other = self.find(c), self.find(d)
        refuse_if(0 in (one[0], other[0]), -9)
        difference = self.unit_shares(one) - self.unit_shares(other)
        return [1 if difference > 0 else 2 if difference < 0 else 0]

    def call_19(self, rate, days):
        refuse_if(not self.classes, -9)
        return self.debts(rate, days)


class Told:
    """The fund as the calls fund and class tell it."""

    def __init__(self, found):
        self.value, self.all_shares, self.count = found[0]
        self.units = [units for units, shares, start in found[1:]]
        self.shares = [shares for units, shares, start in found[1:]]

    def share_price(self):
        return Fraction(self.value, self.all_shares) if self.all_shares else None

    def unit_worths(self):
        """What a unit of each class that has some is worth."""
        return {c: self.share_price() * Fraction(shares, units)
                for c, (units, shares) in enumerate(zip(self.units, self.shares), start=1) if units}


def some_number(source, low, high):
    odd = source.random()
    if odd < 0.03:
        return source.choice((LEAST, -1, 0, low - 1, high + 1, MOST))
    if odd < 0.1:
        return source.choice((low, high))
    return min(high, max(low, source.randrange(10 ** source.randint(0, len(str(high))))))


def some_units(source, reckoning, c):
    if 1 <= c <= len(reckoning.classes) and source.random() < 0.9:
        units = reckoning.classes[c - 1][0]
        wanted = source.choice((1, units, units + 1, units - 1, units // 2, source.randint(0, units)))
        return min(wanted, MOST)
    return some_number(source, 1, MOST_ORDERED_UNITS)


def some_result(source, reckoning):
    value = reckoning.value
    return source.choice((-value, -value - 1, 1 - value, MOST_VALUE - value, MOST_VALUE + 1 - value, -(value // 2),
                          source.randint(-value, value + 1), some_number(source, -MOST_VALUE, MOST_VALUE)))


def some_class(source, reckoning):
    if source.random() < 0.05:
        return source.choice((LEAST, -1, 0, 6, 7, MOST))
    return source.randint(1, max(1, len(reckoning.classes) + (source.random() < 0.1)))


def some_order(source, reckoning):
    c, d = some_class(source, reckoning), some_class(source, reckoning)
    money = some_number(source, 1, MOST_MONEY)
    chance = source.random()
    if chance < 0.005:
        return BEGIN
    if chance < 0.1:
        return open_(some_number(source, 1, 10 ** 6))
    if chance < 0.15:
        return split(c, some_number(source, 2, 1000))
    if chance < 0.2:
        return join(c, d)
    if chance < 0.35:
        return result(some_result(source, reckoning))
    if chance < 0.45:
        return fee(some_number(source, 0, MOST_RATE), some_number(source, 1, MOST_DAYS))
    units = some_units(source, reckoning, c)
    return source.choice((create(c, money), create(d, money), cancel(c, units), cost(c, money), gain(c, money),
                          cost(c, 1 + money % (reckoning.value + 1)), convert(c, d, units), convert(c, d, units)))


def some_question(source, reckoning):
    c, d = some_class(source, reckoning), some_class(source, reckoning)
    units = some_units(source, reckoning, c)
    return source.choice((VALUES, VALUES, price(c), worth(c, units), worth(c, max(0, units - 1)), class_(c), FUND_STATE,
                          wouldcreate(c, some_number(source, 1, MOST_MONEY)), wouldcancel(c, units), dearer(c, d),
                          owed(some_number(source, 0, MOST_RATE), some_number(source, 1, MOST_DAYS))))


def some_call(source, reckoning):
    return source.choice((some_order, some_order, some_question))(source, reckoning)


def made_up_line(seed, length):
    """Calls, the answers reckoned for them, and how many classes there are behind each."""
    source = random.Random(seed)
    reckoning = Reckoning()
    beginning = source.choice(BEGINNINGS)
    calls, found, counts = [], [], []
    while len(calls) < length:
        call = beginning[len(calls)] if len(calls) < len(beginning) else some_call(source, reckoning)
        calls.append(call)
        found.append(reckoning.answer(call))
        counts.append(len(reckoning.classes))
    return calls, found, counts


def told_line(seed):
    """Each call with its answer, and the fund as told ahead of the call and behind it."""
    calls, found, counts = made_up_line(seed, CALLS_A_LINE)
    asked = [[call, FUND_STATE] + [class_(c) for c in range(1, count + 1)] for call, count in zip(calls, counts)]
    given_back = iter(ask(*itertools.chain(*asked)))
    before = Told([[0, 0, 0]])
    for group in asked:
        answer = next(given_back)
        behind = Told(list(itertools.islice(given_back, len(group) - 1)))
        yield group[0], answer, before, behind
        before = behind


class Lines(unittest.TestCase):
    def test_the_program_answers_as_reckoned(self):
        answered, refused = {}, {}
        for seed in range(LINES):
            calls, found, counts = made_up_line(seed, CALLS_A_LINE)
            self.assertEqual(ask(*calls), found, f"seed {seed}: {calls}")
            for call, answer in zip(calls, found):
                counted = refused if answer[0] < 0 else answered
                key = (call[0], answer[0]) if answer[0] < 0 else call[0]
                counted[key] = counted.get(key, 0) + 1
        # The lines are worth something only if every call went through often, and was refused in every way.
        self.assertEqual(sorted(answered), list(range(20)))
        self.assertGreater(min(answered.values()), 50)
        self.assertEqual(sorted(refused), sorted(ALL_REFUSALS))

    def test_lines_of_400_calls(self):
        for seed in range(LONG_LINES):
            calls, found, counts = made_up_line(seed, CALLS_A_LONG_LINE)
            numbers = written(calls)
            self.assertLessEqual(len(numbers), 2000)
            before = list(numbers)
            self.assertEqual(answers(numbers), [number for answer in found for number in [len(answer)] + answer])
            self.assertEqual(answers(numbers), answers(numbers))
            self.assertEqual(numbers, before)
            self.assertEqual({call[0] for call in calls} | {0}, set(range(20)))


class WhatIsTold(unittest.TestCase):
    def each_told(self):
        for seed in range(LINES):
            yield from told_line(seed)

    def test_no_order_lowers_what_another_s_unit_is_worth(self):
        for call, answer, before, behind in self.each_told():
            if answer[0] >= 0 and call[0] in (2, 3, 5, 6, 7, 8):
                worths = behind.unit_worths()
                for c, worth_before in before.unit_worths().items():
                    is_charged = call[0] == 5 and call[1] == c
                    if c in worths and not is_charged:
                        self.assertGreaterEqual(worths[c], worth_before, call)

    def test_a_fee_takes_from_each_class_what_it_owes_and_less_than_a_share_more(self):
        fees = 0
        for call, answer, before, behind in self.each_told():
            if answer[0] >= 0 and call[0] == 10:
                fees += 1
                self.assertEqual(behind.value, before.value - sum(answer), call)
                self.assertEqual(behind.units, before.units, call)
                # What one class pays too much is the others' gain, never their loss.
                self.assertGreaterEqual(behind.share_price(), before.share_price(), call)
                for debt, shares_before, shares in zip(answer, before.shares, behind.shares):
                    paid = (shares_before - shares) * before.share_price()
                    self.assertTrue(debt <= paid < debt + before.share_price(), call)
        self.assertGreater(fees, 50)

    def test_values_are_parted_to_the_last_coin(self):
        for call, answer, before, behind in self.each_told():
            if answer[0] >= 0 and call[0] == 11:
                self.assertEqual(sum(answer), before.value)
                for value, shares in zip(answer, before.shares):
                    exact = shares * before.share_price() if shares else 0
                    self.assertLess(abs(value - exact), 1)

    def test_questions_and_refused_calls_change_nothing(self):
        for call, answer, before, behind in self.each_told():
            if call[0] > 10 or answer[0] < 0:
                self.assertEqual(vars(behind), vars(before), call)

    def test_what_always_holds(self):
        for call, answer, before, behind in self.each_told():
            self.assertTrue(0 <= behind.value <= MOST_VALUE, call)
            self.assertTrue(behind.value == 0 or behind.all_shares > 0, call)
            self.assertEqual(behind.all_shares, sum(behind.shares), call)
            self.assertEqual(behind.count, len(behind.units), call)
            self.assertLessEqual(behind.all_shares, MOST_COUNT, call)
            for units, shares in zip(behind.units, behind.shares):
                self.assertTrue(0 <= units <= MOST_COUNT and 0 <= shares, call)
                self.assertEqual(units > 0, shares > 0, call)

    def test_orders_behind_asking_answer_what_they_would(self):
        would = {2: 16, 3: 17}
        for seed in range(LINES // 2):
            calls, found, counts = made_up_line(seed, CALLS_A_LINE)
            asked = [[(would[call[0]],) + call[1:], call] if call[0] in would else [call] for call in calls]
            wanted = [[answer, answer] if call[0] in would else [answer] for call, answer in zip(calls, found)]
            self.assertEqual(ask(*itertools.chain(*asked)), list(itertools.chain(*wanted)))


if __name__ == "__main__":
    unittest.main()
