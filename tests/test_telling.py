"""The calls that only tell: values, price, worth, class, fund, dearer, wouldcreate, wouldcancel."""

import unittest

from tests.helper import (BEGIN, FUND_STATE, MOST_COUNT, MOST_ORDERED_UNITS, MOST_VALUE, VALUES, ask, cancel, class_,
                          convert, cost, create, dearer, fee, gain, join, last, open_, owed, price, result, seen,
                          split, worth, wouldcancel, wouldcreate)

# Value 100; class 1 (start 1): 60000000 units and shares; class 2 (start 1000): 40000 units, 40000000 shares.
TWO_CLASSES = [open_(1), open_(1000), create(1, 60), create(2, 40)]
# Value 3000000 on 1000000 shares and 3000000 units.
SPLIT_BY_3 = [open_(1), create(1, 1), split(1, 3), result(2999999)]
# Value 2; both classes: 10 ** 24 units on 1000000 shares.
MANY_UNITS = [open_(1), open_(1), create(1, 1), create(2, 1)] + [split(1, 1000), split(2, 1000)] * 6
# Value 2; both classes: 10 ** 23 + 10 ** 15 units and shares.
MANY_SHARES = [open_(1), open_(1), create(1, 10 ** 9), result(1 - 10 ** 9), create(1, 10 ** 8), result(-10 ** 8),
               create(2, 1)]


def with_parts(parts, value):
    """Classes with so many coins' shares each, and a value of all."""
    creates = [create(c, part) for c, part in enumerate(parts, start=1) if part]
    return [open_(1) for part in parts] + creates + [result(value - sum(parts))]


class Values(unittest.TestCase):
    def check(self, parts, value, wanted):
        self.assertEqual(last(with_parts(parts, value), VALUES), wanted)
        self.assertEqual(sum(wanted), value)

    def test_exact_parts(self):
        self.assertEqual(last(TWO_CLASSES, VALUES), [60, 40])
        self.assertEqual(last(TWO_CLASSES, result(100), VALUES), [120, 80])
        self.check([1, 2, 4], 14, [2, 4, 8])

    def test_the_only_class_has_all(self):
        self.check([5], 7, [7])
        self.check([0, 5, 0], 7, [0, 7, 0])

    def test_to_the_greatest_remainder(self):
        # sevenths: 1, 2, 4
        self.check([1, 2, 4], 1, [0, 0, 1])
        # sevenths: 8, 16, 32
        self.check([1, 2, 4], 8, [1, 2, 5])
        # sevenths: 2, 4, 8
        self.check([1, 2, 4], 2, [0, 1, 1])

    def test_more_than_one_coin_left(self):
        # sevenths: 10, 20, 40 with remainders 3, 6, 5
        self.check([1, 2, 4], 10, [1, 3, 6])
        # sevenths: 5, 10, 20 with remainders 5, 3, 6
        self.check([1, 2, 4], 5, [1, 1, 3])
        # sevenths: 3, 6, 12 with remainders 3, 6, 5
        self.check([1, 2, 4], 3, [0, 1, 2])

    def test_of_the_same_remainder_to_the_lesser_class_number(self):
        self.check([1, 1, 1], 100, [34, 33, 33])
        self.check([1, 1, 1], 101, [34, 34, 33])
        self.check([1, 1, 1], 102, [34, 34, 34])
        self.check([1, 1], 1, [1, 0])
        # fourths: 2, 4, 2
        self.check([1, 2, 1], 2, [1, 1, 0])

    def test_a_greater_remainder_behind_equal_ones(self):
        # fourths: 1, 2, 1, then 3, 6, 3
        self.check([1, 2, 1], 1, [0, 1, 0])
        self.check([1, 2, 1], 3, [1, 1, 1])
        # fifths: 1, 1, 3, then 2, 2, 6 and 3, 3, 9
        self.check([1, 1, 3], 1, [0, 0, 1])
        self.check([1, 1, 3], 2, [1, 0, 1])
        self.check([1, 1, 3], 3, [1, 0, 2])

    def test_five_coins_left(self):
        self.check([1] * 6, 5, [1, 1, 1, 1, 1, 0])
        self.check([1] * 6, 11, [2, 2, 2, 2, 2, 1])
        self.check([1] * 6, 13, [3, 2, 2, 2, 2, 2])

    def test_a_class_with_no_units_gets_0(self):
        self.check([0, 1, 0, 1, 0, 1], 2, [0, 1, 0, 1, 0, 0])

    def test_remainders_that_differ_by_one_share(self):
        self.assertEqual(last(MANY_SHARES, result(-1), VALUES), [1, 0])
        self.assertEqual(last(MANY_SHARES, cancel(1, 1), result(-1), VALUES), [0, 1])
        self.assertEqual(last(MANY_SHARES, cancel(2, 1), result(-1), VALUES), [1, 0])

    def test_no_value(self):
        self.assertEqual(last(TWO_CLASSES, result(-100), VALUES), [0, 0])

    def test_the_most_value(self):
        self.check([1, 1, 1], MOST_VALUE, [333333333334, 333333333333, 333333333333])

    def test_no_shares(self):
        self.assertEqual(last([open_(1)], VALUES), [0])
        self.assertEqual(last([open_(1)] * 6, VALUES), [0] * 6)
        self.assertEqual(last([open_(1), open_(1), create(2, 1), cancel(2, 1000000)], VALUES), [0, 0])

    def test_no_classes(self):
        self.assertEqual(ask(VALUES), [[-9]])
        self.assertEqual(ask(*TWO_CLASSES, BEGIN, VALUES)[-1], [-9])


class Price(unittest.TestCase):
    def test_rounded_down_and_up_are_the_same(self):
        self.assertEqual(last(TWO_CLASSES, price(1)), [1000000, 1000000])
        self.assertEqual(last(TWO_CLASSES, price(2)), [1000000000, 1000000000])
        self.assertEqual(last(TWO_CLASSES, result(-93), price(1)), [70000, 70000])

    def test_rounded_down_and_up_are_not_the_same(self):
        self.assertEqual(last(TWO_CLASSES, split(1, 3), price(1)), [333333, 333334])
        self.assertEqual(last(TWO_CLASSES, split(1, 3), result(100), price(1)), [666666, 666667])

    def test_a_little_more_and_a_little_less_than_whole(self):
        # A value of 1 on 10 ** 12 units makes a price of 1; then on a unit fewer, and on a unit more.
        setup = [open_(1), open_(1), create(1, 1), split(1, 1000), split(1, 1000)]
        self.assertEqual(last(setup, price(1)), [1, 1])
        self.assertEqual(last(setup, cancel(1, 1), price(1)), [1, 2])
        self.assertEqual(last(setup, split(1, 2), cancel(1, 10 ** 12 - 1), class_(1)), [10 ** 12 + 1, 500001, 1])
        self.assertEqual(last(setup, split(1, 2), cancel(1, 10 ** 12 - 1), price(1)), [0, 1])

    def test_by_the_class_s_own_shares(self):
        self.assertEqual(last(TWO_CLASSES, cost(1, 30), price(1)), [500000, 500000])
        self.assertEqual(last(TWO_CLASSES, cost(1, 30), price(2)), [1000000000, 1000000000])
        self.assertEqual(last(TWO_CLASSES, gain(2, 40), price(2)), [2000000000, 2000000000])

    def test_no_value(self):
        self.assertEqual(last(TWO_CLASSES, result(-100), price(1)), [0, 0])

    def test_far_less_than_a_millionth(self):
        self.assertEqual(last(MANY_UNITS, price(1)), [0, 1])

    def test_the_greatest(self):
        # A single unit, as they are counted, on all of the value.
        setup = [open_(1000000), create(1, 1), result(MOST_VALUE - 1)]
        self.assertEqual(last(setup, class_(1)), [1, 1000000, 1000000])
        self.assertEqual(last(setup, price(1)), [10 ** 24, 10 ** 24])

    def test_the_sixth_class(self):
        self.assertEqual(last([open_(1)] * 6, create(6, 7), result(7), price(6)), [2000000, 2000000])


class Worth(unittest.TestCase):
    def test_exact(self):
        self.assertEqual(last(TWO_CLASSES, worth(1, 30000000)), [30])
        self.assertEqual(last(TWO_CLASSES, worth(2, 10000)), [10])

    def test_rounded_down(self):
        self.assertEqual(last(TWO_CLASSES, worth(1, 1999999)), [1])
        self.assertEqual(last(TWO_CLASSES, worth(1, 2000000)), [2])
        self.assertEqual(last(TWO_CLASSES, worth(1, 2000001)), [2])

    def test_rounded_once_only(self):
        # 5 units have 1.67 shares; they are worth 5, though cancelling them brings 3.
        self.assertEqual(ask(*SPLIT_BY_3, worth(1, 5), wouldcancel(1, 5))[4:], [[5], [3, 1]])

    def test_no_units_asked(self):
        self.assertEqual(last(TWO_CLASSES, worth(1, 0)), [0])
        self.assertEqual(last(TWO_CLASSES, result(-100), worth(1, 0)), [0])

    def test_all_of_the_class_s_units(self):
        self.assertEqual(last(TWO_CLASSES, worth(1, 60000000)), [60])
        self.assertEqual(last(TWO_CLASSES, worth(2, 40000)), [40])
        self.assertEqual(last(with_parts([1, 1, 1], 100), worth(1, 1000000)), [33])

    def test_a_class_with_no_units(self):
        self.assertEqual(last([open_(1)], worth(1, 0)), [0])
        self.assertEqual(last([open_(1), open_(1), create(1, 1)], worth(2, 0)), [0])
        self.assertEqual(last(TWO_CLASSES, cancel(2, 40000), worth(2, 0)), [0])

    def test_no_value(self):
        self.assertEqual(last(TWO_CLASSES, result(-100), worth(1, 60000000)), [0])

    def test_the_most_units(self):
        self.assertEqual(last(MANY_UNITS, worth(1, MOST_ORDERED_UNITS)), [0])
        self.assertEqual(last(MANY_UNITS, result(MOST_VALUE - 2), worth(1, MOST_ORDERED_UNITS)), [500000])
        self.assertEqual(last(MANY_UNITS, result(MOST_VALUE - 2), worth(1, MOST_ORDERED_UNITS - 1)), [499999])


class Class(unittest.TestCase):
    def test_units_shares_start(self):
        self.assertEqual(last(TWO_CLASSES, class_(1)), [60000000, 60000000, 1])
        self.assertEqual(last(TWO_CLASSES, class_(2)), [40000, 40000000, 1000])

    def test_a_new_class(self):
        self.assertEqual(ask(open_(1), open_(1000000), class_(1), class_(2))[2:], [[0, 0, 1], [0, 0, 1000000]])

    def test_behind_each_call_that_changes_it(self):
        for call, wanted in ((create(2, 10), [50000, 50000000, 1000]), (cancel(2, 10000), [30000, 30000000, 1000]),
                             (result(50), [40000, 40000000, 1000]), (cost(2, 10), [40000, 30000000, 1000]),
                             (gain(2, 10), [40000, 50000000, 1000]), (convert(1, 2, 999999), [40999, 40999999, 1000]),
                             (convert(2, 1, 1), [39999, 39999000, 1000]), (join(1, 2), [100000, 100000000, 1000]),
                             (join(2, 1), [0, 0, 1000]), (split(2, 3), [120000, 40000000, 1000]),
                             (fee(100000, 365), [40000, 36000000, 1000])):
            self.assertEqual(last(TWO_CLASSES, call, class_(2)), wanted, call)

    def test_the_start_stays_when_all_units_are_gone(self):
        self.assertEqual(last(TWO_CLASSES, cancel(2, 40000), class_(2)), [0, 0, 1000])

    def test_behind_begin(self):
        self.assertEqual(ask(*TWO_CLASSES, BEGIN, class_(1), open_(7), class_(1), class_(2))[5:],
                         [[-4], [1], [0, 0, 7], [-4]])

    def test_beyond_63_bits(self):
        self.assertEqual(last(MANY_UNITS, class_(1)), [MOST_COUNT, 1000000, 1])
        self.assertEqual(last(MANY_SHARES, class_(2)), [10 ** 23 + 10 ** 15, 10 ** 23 + 10 ** 15, 1])


class FundState(unittest.TestCase):
    def test_new(self):
        self.assertEqual(ask(FUND_STATE), [[0, 0, 0]])

    def test_value_all_shares_classes(self):
        self.assertEqual(last(TWO_CLASSES, FUND_STATE), [100, 100000000, 2])
        self.assertEqual(last([open_(1)] * 6, FUND_STATE), [0, 0, 6])

    def test_behind_each_call_that_changes_it(self):
        for call, wanted in ((open_(1), [100, 100000000, 3]), (create(2, 10), [110, 110000000, 2]),
                             (cancel(2, 10000), [90, 90000000, 2]), (result(50), [150, 100000000, 2]),
                             (cost(2, 10), [90, 90000000, 2]), (gain(2, 10), [110, 110000000, 2]),
                             (convert(1, 2, 999999), [100, 100000000, 2]), (join(1, 2), [100, 100000000, 2]),
                             (split(2, 3), [100, 100000000, 2]), (fee(100000, 365), [90, 90000000, 2]),
                             (BEGIN, [0, 0, 0])):
            self.assertEqual(last(TWO_CLASSES, call, FUND_STATE), wanted, call)

    def test_no_value_with_shares_and_no_shares(self):
        self.assertEqual(last(TWO_CLASSES, result(-100), FUND_STATE), [0, 100000000, 2])
        self.assertEqual(last(TWO_CLASSES, cancel(1, 60000000), cancel(2, 40000), FUND_STATE), [0, 0, 2])

    def test_beyond_63_bits(self):
        self.assertEqual(last(MANY_SHARES, FUND_STATE), [2, 2 * (10 ** 23 + 10 ** 15), 2])


class Dearer(unittest.TestCase):
    def check(self, setup, c, d, wanted):
        self.assertEqual(last(setup, dearer(c, d)), [wanted])
        self.assertEqual(last(setup, dearer(d, c)), [{0: 0, 1: 2, 2: 1}[wanted]])

    def test_one_has_more(self):
        self.check(TWO_CLASSES, 1, 2, 2)
        self.check([open_(9), open_(8), create(1, 9), create(2, 8)], 1, 2, 1)

    def test_more_shares_in_all_but_fewer_a_unit(self):
        self.check([open_(1), open_(2), create(1, 100), create(2, 2)], 1, 2, 2)

    def test_as_many(self):
        self.check([open_(1), open_(1), create(1, 60), create(2, 7)], 1, 2, 0)
        # 6 shares a unit, parted by 2, and 3 shares a unit
        self.check([open_(6), open_(3), create(1, 3), split(1, 2), create(2, 9)], 1, 2, 0)

    def test_the_same_class(self):
        self.check(TWO_CLASSES, 2, 2, 0)

    def test_both_less_than_a_share_a_unit(self):
        self.check([open_(1), open_(1), create(1, 1), create(2, 1), split(1, 3), split(2, 2)], 1, 2, 2)

    def test_quotients_that_round_the_same(self):
        # 1 and 1.5 shares a unit, then 0.5 and 1
        setup = [open_(1), open_(1), create(1, 2), create(2, 2)]
        self.check(setup + [gain(2, 1)], 1, 2, 2)
        self.check(setup + [cost(1, 1)], 1, 2, 2)

    def test_quotients_that_differ_by_little(self):
        self.check(MANY_UNITS, 1, 2, 0)
        self.check(MANY_UNITS + [cancel(2, 1)], 1, 2, 2)
        self.check(MANY_UNITS + [cancel(1, 1)], 1, 2, 1)
        self.check(MANY_UNITS + [cancel(1, 1), cancel(2, 1)], 1, 2, 0)
        self.check(MANY_SHARES, 1, 2, 0)
        self.check(MANY_SHARES + [split(1, 2), cancel(1, 1)], 1, 2, 2)
        self.check(MANY_SHARES + [split(1, 2), split(2, 2), cancel(1, 1)], 1, 2, 1)

    def test_the_value_is_no_matter(self):
        self.check(TWO_CLASSES + [result(-100)], 1, 2, 2)
        self.check([open_(1), open_(1), create(1, 1), create(2, 1), result(-2)], 1, 2, 0)

    def test_the_sixth_class(self):
        self.check([open_(start) for start in range(1, 7)] + [create(5, 5), create(6, 6)], 5, 6, 2)


class WouldCreateAndCancel(unittest.TestCase):
    def check(self, setup, would, order):
        found = ask(*setup, would, order)
        self.assertEqual(found[-2], found[-1], (would, order))
        self.assertEqual(found[-1], last(setup, order))
        self.assertEqual(seen(setup + [would]), seen(setup))
        self.assertEqual(seen(setup + [would, order]), seen(setup + [order]))

    def test_answers(self):
        self.assertEqual(last(TWO_CLASSES, wouldcreate(1, 50)), [50000000, 50000000])
        self.assertEqual(last(TWO_CLASSES, wouldcreate(2, 7)), [7000, 7000000])
        self.assertEqual(last(TWO_CLASSES, wouldcancel(2, 10000)), [10, 10000000])

    def test_create_behind_it_answers_the_same(self):
        for setup in (TWO_CLASSES, TWO_CLASSES + [result(-93)], SPLIT_BY_3 + [open_(7)], [open_(3), open_(7)]):
            for c in (1, 2):
                for money in (1, 3, 10 ** 9):
                    self.check(setup, wouldcreate(c, money), create(c, money))

    def test_cancel_behind_it_answers_the_same(self):
        for setup in (TWO_CLASSES, TWO_CLASSES + [result(-93)], TWO_CLASSES + [result(-100)], TWO_CLASSES + [split(1, 7)]):
            for c, units in ((1, 1), (1, 1999999), (1, 60000000), (2, 1), (2, 39999), (2, 40000)):
                self.check(setup, wouldcancel(c, units), cancel(c, units))

    def test_again_and_again(self):
        self.assertEqual(ask(*TWO_CLASSES, *[wouldcreate(2, 7)] * 3, *[wouldcancel(1, 60000000)] * 3, FUND_STATE)[4:],
                         [[7000, 7000000]] * 3 + [[60, 60000000]] * 3 + [[100, 100000000, 2]])

    def test_all_units_of_the_only_class(self):
        setup = [open_(1), create(1, 7), result(13)]
        self.assertEqual(ask(*setup, wouldcancel(1, 7000000), FUND_STATE, class_(1))[3:],
                         [[20, 7000000], [20, 7000000, 1], [7000000, 7000000, 1]])

    def test_on_an_empty_class(self):
        self.assertEqual(ask(open_(4), wouldcreate(1, 1), FUND_STATE, class_(1))[1:],
                         [[250000, 1000000], [0, 0, 1], [0, 0, 4]])


class NothingChanges(unittest.TestCase):
    def test_by_asking(self):
        for setup in ([], [open_(1)], TWO_CLASSES, SPLIT_BY_3, TWO_CLASSES + [result(-100)]):
            before = seen(setup)
            for call in (VALUES, price(1), worth(1, 0), worth(1, 1000), class_(1), FUND_STATE, wouldcreate(1, 5),
                         wouldcancel(1, 5), dearer(1, 1), dearer(1, 2), owed(100000, 366)):
                self.assertEqual(seen(setup + [call]), before, call)


if __name__ == "__main__":
    unittest.main()
