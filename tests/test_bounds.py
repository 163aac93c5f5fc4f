"""Too much: shares and units at 10 ** 24 and one above it, each by itself."""

import unittest

from tests.helper import (MOST_COUNT, MOST_ORDERED_UNITS, ask, cancel, convert, create, gain, join, last, open_,
                          result, seen, split)

# Value 1; class 1: 10 ** 15 units and shares; class 2 (start 1000000) and class 3 (start 1): none.
# A coin brings 10 ** 15 shares, so 10 ** 9 - 1 coins make 10 ** 24 of all shares.
DEAR = [open_(1), open_(1000000), open_(1), create(1, 10 ** 9), result(1 - 10 ** 9)]

# 10 ** 24 + 1 is (10 ** 8 + 1) * ODD, and 10 ** 8 + 1 is 17 * 5882353.
ODD = 10 ** 16 - 10 ** 8 + 1
# Value 1; class 1: ODD units and shares. 10 ** 8 coins make 10 ** 24 + 1 of all shares.
DEAR_AND_ODD = DEAR + [create(1, 9), result(-9), cancel(1, 10 ** 8 - 1)]


class BoundCase(unittest.TestCase):
    def check_too_much(self, setup, call):
        self.assertEqual(last(setup, call), [-8])
        self.assertEqual(seen(setup + [call]), seen(setup))


class AllShares(BoundCase):
    def test_setup(self):
        self.assertEqual(last(DEAR_AND_ODD), [0, 10 ** 8 - 1])
        self.assertEqual(last(DEAR_AND_ODD, cancel(1, ODD)), [1, ODD])

    def test_create_at_the_bound(self):
        came = MOST_COUNT - 10 ** 15
        self.assertEqual(last(DEAR, create(2, 10 ** 9 - 1)), [came // 10 ** 6, came])

    def test_create_one_above(self):
        self.check_too_much(DEAR_AND_ODD, create(2, 10 ** 8))
        came = (10 ** 8 - 1) * ODD
        self.assertEqual(last(DEAR_AND_ODD, create(2, 10 ** 8 - 1)), [came // 10 ** 6, came])

    def test_gain_at_the_bound(self):
        self.assertEqual(ask(*DEAR, gain(1, 10 ** 9 - 1), split(1, 2))[5:], [[MOST_COUNT - 10 ** 15], [2 * 10 ** 15]])

    def test_gain_one_above(self):
        self.check_too_much(DEAR_AND_ODD, gain(1, 10 ** 8))
        self.assertEqual(last(DEAR_AND_ODD, gain(1, 10 ** 8 - 1)), [(10 ** 8 - 1) * ODD])

    def test_shares_of_all_classes_are_counted(self):
        setup = DEAR + [create(2, 10 ** 9 - 1), result(1 - 10 ** 9)]
        self.check_too_much(setup, create(3, 1))
        self.check_too_much(setup, gain(2, 1))
        self.check_too_much(setup, create(1, 1))

    def test_other_calls_go_on_at_the_bound(self):
        setup = DEAR + [create(2, 10 ** 9 - 1)]
        shares = MOST_COUNT - 10 ** 15
        self.assertEqual(last(setup, join(2, 3)), [shares, shares])
        self.assertEqual(last(setup, split(1, 2)), [2 * 10 ** 15])
        self.assertEqual(last(setup, cancel(2, shares // 10 ** 6)), [10 ** 9 - 1, shares])


class UnitsOfSplit(BoundCase):
    def test_at_the_bound(self):
        self.assertEqual(ask(*DEAR, split(1, 1000), split(1, 1000), split(1, 1000))[-1], [MOST_COUNT])

    def test_one_above(self):
        setup = DEAR_AND_ODD + [create(1, 5882352)]
        self.assertEqual(last(setup, split(1, 16)), [16 * 5882353 * ODD])
        self.assertEqual(17 * 5882353 * ODD, MOST_COUNT + 1)
        self.check_too_much(setup, split(1, 17))


def many_units(left):
    """Value 2; class 1: 10 ** 24 - left units on 1000000 shares; class 2: 1000000 units and shares."""
    fill = [open_(1), open_(1), create(1, 1), create(2, 1)]
    return fill + [split(1, 1000)] * 6 + [cancel(1, left)]


def left_for(total):
    """How many units to cancel so that 1 share (of a million) brings class 1 up to this total."""
    left = MOST_ORDERED_UNITS * 10 ** 6 // (10 ** 6 + 1) - (total - MOST_COUNT) - 5
    while MOST_COUNT - left + (MOST_COUNT - left) // 10 ** 6 > total:
        left += 1
    return left


class UnitsBrought(BoundCase):
    """1 share brings a class of 1000000 shares a millionth of its units, rounded down."""

    def test_convert_at_the_bound(self):
        left = left_for(MOST_COUNT)
        self.assertEqual(last(many_units(left)), [0, 0])
        self.assertEqual(last(many_units(left), convert(2, 1, 1)), [left, 1])

    def test_convert_one_above(self):
        left = left_for(MOST_COUNT + 1)
        units = MOST_COUNT - left
        self.assertEqual(units + units // 10 ** 6, MOST_COUNT + 1)
        self.check_too_much(many_units(left), convert(2, 1, 1))

    def test_join_at_the_bound_and_one_above(self):
        # Class 3 is given 1 share of class 2's.
        third = [open_(1), convert(2, 3, 1)]
        at_bound = many_units(left_for(MOST_COUNT)) + third
        self.assertEqual(last(at_bound, join(3, 1)), [left_for(MOST_COUNT), 1])
        self.check_too_much(many_units(left_for(MOST_COUNT + 1)) + third, join(3, 1))

    def test_create_at_the_bound_and_one_above(self):
        # A value of 2000000 on 2000000 shares: a coin brings 1 share.
        raised = [result(1999998)]
        at_bound = many_units(left_for(MOST_COUNT)) + raised
        self.assertEqual(last(at_bound, create(1, 1)), [left_for(MOST_COUNT), 1])
        self.check_too_much(many_units(left_for(MOST_COUNT + 1)) + raised, create(1, 1))

    def test_gain_brings_no_units(self):
        setup = many_units(1) + [result(1999998)]
        self.assertEqual(last(setup, gain(1, 1)), [1])


class BeyondConvertsUnits(unittest.TestCase):
    def test_join_takes_more_units_than_convert_may(self):
        # Class 1: 10 ** 24 units on 1000000 shares.
        setup = [open_(1), open_(1), create(1, 1)] + [split(1, 1000)] * 6
        self.assertEqual(last(setup), [MOST_COUNT])
        self.assertEqual(ask(*setup, join(1, 2), split(1, 2), split(2, 2))[-3:], [[1000000, 1000000], [0], [2000000]])

    def test_join_of_one_unit_more(self):
        # 10 ** 18 + 1 units on 500001 shares
        setup = [open_(1), open_(1), create(1, 1)] + [split(1, 1000)] * 4
        setup += [split(1, 2), cancel(1, MOST_ORDERED_UNITS - 1)]
        self.assertEqual(last(setup), [0, 499999])
        self.assertEqual(last(setup, convert(1, 2, MOST_ORDERED_UNITS + 1)), [-1])
        self.assertEqual(last(setup, convert(1, 2, MOST_ORDERED_UNITS)), [500000, 500000])
        self.assertEqual(last(setup, join(1, 2)), [500001, 500001])


if __name__ == "__main__":
    unittest.main()
