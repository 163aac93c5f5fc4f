"""Every refusal of every call, which of several is answered, and that a refused call changes nothing."""

import unittest

from tests.helper import (FUND_STATE, LEAST, MOST, MOST_DAYS, MOST_MONEY, MOST_ORDERED_UNITS, MOST_RATE, MOST_VALUE,
                          VALUES, ask, cancel, class_, convert, cost, create, dearer, fee, gain, join, last, open_, owed,
                          price, result, seen, split, worth, wouldcancel, wouldcreate)

# Value 100; class 1: 60000000 units and shares; class 2: 40000 units, 40000000 shares; class 3: none.
FUND = [open_(1), open_(1000), open_(10), create(1, 60), create(2, 40)]
NO_VALUE = FUND + [result(-100)]
FULL_VALUE = FUND + [result(MOST_VALUE - 100)]
NO_CLASSES = []
NO_SHARES = [open_(1), open_(1)]
# Class 1: 10 ** 24 units on 1000000 shares; class 2 the same shares, as many units.
MANY_UNITS = [open_(1), open_(1), create(1, 1), create(2, 1)] + [split(1, 1000)] * 6
SIX_CLASSES = [open_(start) for start in range(1, 7)]

WRONG_CLASSES = [(LEAST, -1), (-1, -1), (0, -1), (4, -4), (5, -4), (6, -4), (7, -1), (MOST, -1)]
WRONG_MONEY = [LEAST, -1, 0, MOST_MONEY + 1, MOST]
WRONG_UNITS = [LEAST, -1, 0, MOST_ORDERED_UNITS + 1, MOST]
WRONG_RATES = [LEAST, -1, MOST_RATE + 1, MOST]
WRONG_DAYS = [LEAST, -1, 0, MOST_DAYS + 1, MOST]


class RefusalCase(unittest.TestCase):
    def check(self, setup, call, refusal):
        with self.subTest(call=call, refusal=refusal):
            self.assertEqual(last(setup, call), [refusal])
            self.assertEqual(seen(setup + [call]), seen(setup))

    def check_classes(self, setup, make):
        for c, refusal in WRONG_CLASSES:
            self.check(setup, make(c), refusal)


class OpenRefusals(RefusalCase):
    def test_start(self):
        for start in (LEAST, -1, 0, 1000001, MOST):
            self.check(FUND, open_(start), -1)
        self.assertEqual(ask(open_(1), open_(1000000)), [[1], [2]])

    def test_the_seventh_class(self):
        self.assertEqual(last(SIX_CLASSES), [6])
        self.check(SIX_CLASSES, open_(1), -8)
        self.check(SIX_CLASSES, open_(1000000), -8)

    def test_start_before_the_seventh_class(self):
        for start in (LEAST, 0, 1000001, MOST):
            self.check(SIX_CLASSES, open_(start), -1)


class CreateRefusals(RefusalCase):
    def test_money(self):
        for money in WRONG_MONEY:
            self.check(FUND, create(1, money), -1)
        self.assertEqual(last(FUND, create(1, 1)), [1000000, 1000000])
        self.assertEqual(last(FUND, create(1, MOST_MONEY)), [10 ** 15, 10 ** 15])

    def test_class(self):
        self.check_classes(FUND, lambda c: create(c, 1))
        self.check(NO_CLASSES, create(1, 1), -4)

    def test_money_before_class(self):
        for money in WRONG_MONEY:
            self.check(FUND, create(4, money), -1)
            self.check(FUND, create(7, money), -1)

    def test_nothing_to_reckon_by(self):
        for c in (1, 2, 3):
            self.check(NO_VALUE, create(c, 1), -9)
            self.check(NO_VALUE, create(c, MOST_MONEY), -9)

    def test_nothing_to_reckon_by_with_a_single_share(self):
        single_share = [open_(1), create(1, 1), cancel(1, 999999)]
        self.check(single_share + [result(-1)], create(1, 1), -9)
        self.assertEqual(last(single_share, create(1, 3)), [3, 3])

    def test_money_and_class_before_nothing_to_reckon_by(self):
        self.check(NO_VALUE, create(1, 0), -1)
        self.check(NO_VALUE, create(7, 1), -1)
        self.check(NO_VALUE, create(4, 1), -4)

    def test_no_value_is_no_matter_where_there_are_no_shares(self):
        self.assertEqual(last(NO_SHARES, create(2, 1)), [1000000, 1000000])

    def test_no_shares_come(self):
        # 100000000 shares on 10 ** 12: a share costs 10000
        almost_full = FUND + [result(MOST_VALUE - 10100)]
        self.check(almost_full, create(1, 9999), -6)
        self.assertEqual(last(almost_full, create(1, 10000)), [1, 1])

    def test_shares_come_but_no_unit(self):
        self.check(FUND + [result(10 ** 8 - 100)], create(2, 999), -6)
        self.assertEqual(last(FUND, result(10 ** 8 - 100), create(2, 1000)), [1, 1000])

    def test_no_unit_by_the_start(self):
        setup = [open_(1), open_(1000000), create(1, 1)]
        self.check(setup + [result(1)], create(2, 1), -6)
        self.assertEqual(last(setup, create(2, 1)), [1, 1000000])

    def test_class_before_no_unit(self):
        setup = FUND + [result(10 ** 8 - 100)]
        self.check(setup, create(4, 1), -4)
        self.check(setup, create(0, 1), -1)

    def test_value_too_much(self):
        almost_full = FUND + [result(MOST_VALUE - 10 ** 8 - 100)]
        self.assertEqual(last(almost_full, create(1, 10 ** 8), result(0)), [MOST_VALUE])
        self.check(almost_full, create(1, 10 ** 8 + 1), -8)
        self.check(FULL_VALUE, create(1, 10000), -8)

    def test_no_unit_before_too_much(self):
        self.check(FULL_VALUE, create(1, 9999), -6)
        self.check(FULL_VALUE, create(2, 10000), -6)

    def test_units_too_much(self):
        self.check(MANY_UNITS, create(1, 1), -8)
        self.assertEqual(last(MANY_UNITS, create(2, 1)), [1000000, 1000000])


class CancelRefusals(RefusalCase):
    def test_units(self):
        for units in WRONG_UNITS:
            self.check(FUND, cancel(1, units), -1)
            self.check(MANY_UNITS, cancel(1, units), -1)
        self.assertEqual(last(MANY_UNITS, cancel(1, 1)), [0, 0])
        self.assertEqual(last(MANY_UNITS, cancel(1, MOST_ORDERED_UNITS)), [0, 1])

    def test_class(self):
        self.check_classes(FUND, lambda c: cancel(c, 1))
        self.check(NO_CLASSES, cancel(1, 1), -4)

    def test_units_before_class(self):
        for units in WRONG_UNITS:
            self.check(FUND, cancel(4, units), -1)

    def test_more_than_there_is(self):
        self.check(FUND, cancel(1, 60000001), -7)
        self.check(FUND, cancel(1, MOST_ORDERED_UNITS), -7)
        self.check(FUND, cancel(2, 40001), -7)
        self.check(FUND, cancel(3, 1), -7)
        self.check(NO_SHARES, cancel(1, 1), -7)
        self.check(NO_VALUE, cancel(1, 60000001), -7)
        self.assertEqual(last(FUND, cancel(2, 40000)), [40, 40000000])

    def test_class_before_more_than_there_is(self):
        self.check(FUND, cancel(4, MOST_ORDERED_UNITS), -4)
        self.check(FUND, cancel(7, MOST_ORDERED_UNITS), -1)


class ResultRefusals(RefusalCase):
    def test_range(self):
        for change in (LEAST, -MOST_VALUE - 1, MOST_VALUE + 1, MOST):
            self.check(FUND, result(change), -1)
            self.check(FULL_VALUE, result(change), -1)
            self.check(NO_VALUE, result(change), -1)
        self.assertEqual(last(FULL_VALUE, result(-MOST_VALUE)), [0])
        self.assertEqual(last(NO_VALUE, result(MOST_VALUE)), [MOST_VALUE])

    def test_nothing_to_reckon_by(self):
        for setup in (NO_CLASSES, NO_SHARES, [open_(1), create(1, 1), cancel(1, 1000000)]):
            for change in (-MOST_VALUE, -1, 0, 1, MOST_VALUE):
                self.check(setup, result(change), -9)

    def test_range_before_nothing_to_reckon_by(self):
        self.check(NO_CLASSES, result(MOST_VALUE + 1), -1)
        self.check(NO_SHARES, result(-MOST_VALUE - 1), -1)

    def test_below_0(self):
        self.check(FUND, result(-101), -7)
        self.check(FUND, result(-MOST_VALUE), -7)
        self.check(NO_VALUE, result(-1), -7)
        self.assertEqual(last(FUND, result(-100)), [0])

    def test_too_much(self):
        self.check(FUND, result(MOST_VALUE - 99), -8)
        self.check(FUND, result(MOST_VALUE), -8)
        self.check(FULL_VALUE, result(1), -8)
        self.assertEqual(last(FUND, result(MOST_VALUE - 100)), [MOST_VALUE])


class CostRefusals(RefusalCase):
    def test_money(self):
        for money in WRONG_MONEY:
            self.check(FUND, cost(1, money), -1)
        self.assertEqual(last(FUND, cost(1, 1)), [1000000])
        # 10 ** 9 of 10 ** 12 is a thousandth of 100000000 shares
        self.assertEqual(last(FULL_VALUE, cost(1, MOST_MONEY)), [100000])

    def test_class(self):
        self.check_classes(FUND, lambda c: cost(c, 1))
        self.check(NO_CLASSES, cost(1, 1), -4)

    def test_money_before_class(self):
        for money in WRONG_MONEY:
            self.check(FUND, cost(4, money), -1)

    def test_nothing_to_reckon_by(self):
        self.check(NO_VALUE, cost(1, 1), -9)
        self.check(NO_VALUE, cost(3, MOST_MONEY), -9)
        self.check(NO_SHARES, cost(1, 1), -9)

    def test_money_and_class_before_nothing_to_reckon_by(self):
        self.check(NO_VALUE, cost(1, 0), -1)
        self.check(NO_VALUE, cost(0, 1), -1)
        self.check(NO_VALUE, cost(4, 1), -4)

    def test_all_of_the_class_s_shares_or_more(self):
        self.check(FUND, cost(1, 60), -7)
        self.check(FUND, cost(1, 61), -7)
        self.check(FUND, cost(1, 100), -7)
        self.check(FUND, cost(1, MOST_MONEY), -7)
        self.check(FUND, cost(3, 1), -7)
        self.check([open_(1), create(1, 1)], cost(1, 1), -7)
        self.assertEqual(last(FUND, cost(1, 59)), [59000000])
        self.assertEqual(last(FUND, cost(1, 59), cancel(1, 60000000)), [1, 1000000])

    def test_shares_rounded_up_to_all_of_the_class_s(self):
        # Class 2 has 1 of 1000000 shares; at a value of 1000002 a cost of 1 is less than a share.
        setup = [open_(1), open_(1), create(1, 1), convert(1, 2, 1), result(1000001)]
        self.check(setup, cost(2, 1), -7)
        self.assertEqual(last(setup, cost(1, 1)), [1])

    def test_one_share_is_left(self):
        # Value 1000000 and as many shares, one a coin.
        setup = [open_(1), create(1, 1), result(999999)]
        self.check(setup, cost(1, 1000000), -7)
        self.assertEqual(ask(*setup, cost(1, 999999), cancel(1, 1000000))[3:], [[999999], [1, 1]])


class GainRefusals(RefusalCase):
    def test_money(self):
        for money in WRONG_MONEY:
            self.check(FUND, gain(1, money), -1)
        self.assertEqual(last(FUND, gain(1, 1)), [1000000])
        self.assertEqual(last(FUND, gain(1, MOST_MONEY)), [10 ** 15])

    def test_class(self):
        self.check_classes(FUND, lambda c: gain(c, 1))
        self.check(NO_CLASSES, gain(1, 1), -4)

    def test_money_before_class(self):
        for money in WRONG_MONEY:
            self.check(FUND, gain(4, money), -1)

    def test_nothing_to_reckon_by(self):
        self.check(NO_VALUE, gain(1, 1), -9)
        self.check(NO_VALUE, gain(3, 1), -9)
        self.check(NO_SHARES, gain(1, 1), -9)
        self.check(FUND, gain(3, 1), -9)
        self.check(FUND + [cancel(2, 40000)], gain(2, 1), -9)

    def test_money_and_class_before_nothing_to_reckon_by(self):
        self.check(NO_VALUE, gain(1, 0), -1)
        self.check(NO_VALUE, gain(0, 1), -1)
        self.check(NO_VALUE, gain(4, 1), -4)

    def test_nothing_to_reckon_by_before_too_much(self):
        self.check(FULL_VALUE, gain(3, 1), -9)

    def test_value_too_much(self):
        almost_full = FUND + [result(MOST_VALUE - 10 ** 8 - 100)]
        self.assertEqual(last(almost_full, gain(1, 10 ** 8), result(0)), [MOST_VALUE])
        self.check(almost_full, gain(1, 10 ** 8 + 1), -8)
        self.check(FULL_VALUE, gain(1, 1), -8)


class ConvertRefusals(RefusalCase):
    def test_units(self):
        for units in WRONG_UNITS:
            self.check(FUND, convert(1, 2, units), -1)
            self.check(MANY_UNITS, convert(1, 2, units), -1)
        self.assertEqual(last(FUND, convert(2, 1, 1)), [1000, 1000])
        self.assertEqual(last(MANY_UNITS, convert(1, 2, MOST_ORDERED_UNITS)), [1, 1])

    def test_first_class(self):
        self.check_classes(FUND, lambda c: convert(c, 2, 1000))
        self.check(NO_CLASSES, convert(1, 2, 1), -4)

    def test_units_before_first_class(self):
        for units in WRONG_UNITS:
            self.check(FUND, convert(4, 2, units), -1)

    def test_more_than_there_is(self):
        self.check(FUND, convert(1, 2, 60000001), -7)
        self.check(FUND, convert(2, 1, 40001), -7)
        self.check(FUND, convert(3, 1, 1), -7)

    def test_first_class_before_more_than_there_is(self):
        self.check(FUND, convert(4, 1, MOST_ORDERED_UNITS), -4)

    def test_second_class(self):
        self.check_classes(FUND, lambda d: convert(1, d, 1000))

    def test_more_than_there_is_before_second_class(self):
        for d, refusal in WRONG_CLASSES:
            self.check(FUND, convert(1, d, 60000001), -7)
            self.check(FUND, convert(3, d, 1), -7)

    def test_first_class_before_second_class(self):
        self.check(FUND, convert(4, 0, 1), -4)
        self.check(FUND, convert(4, 7, 1), -4)
        self.check(FUND, convert(0, 4, 1), -1)
        self.check(FUND, convert(7, 4, 1), -1)

    def test_the_same_class(self):
        self.check(FUND, convert(1, 1, 1000), -6)
        self.check(FUND, convert(1, 1, 60000000), -6)
        self.check(FUND, convert(2, 2, 40000), -6)

    def test_the_same_class_behind_the_others(self):
        self.check(FUND, convert(3, 3, 1), -7)
        self.check(FUND, convert(4, 4, 1), -4)
        self.check(FUND, convert(7, 7, 1), -1)
        self.check(FUND, convert(1, 1, 0), -1)

    def test_the_same_class_before_too_much(self):
        self.check(MANY_UNITS, convert(1, 1, MOST_ORDERED_UNITS), -6)

    def test_no_unit(self):
        self.check(FUND, convert(1, 2, 999), -6)
        self.check(FUND, convert(1, 3, 9), -6)
        self.check(FUND + [split(1, 2)], convert(1, 3, 1), -6)
        self.check(FUND + [split(1, 2)], convert(1, 3, 19), -6)
        self.assertEqual(last(FUND, convert(1, 2, 1000)), [1, 1000])
        self.assertEqual(last(FUND, convert(1, 3, 10)), [1, 10])

    def test_too_much(self):
        self.check(MANY_UNITS, convert(2, 1, 1), -8)
        self.check(MANY_UNITS, convert(2, 1, 1000000), -8)

    def test_second_class_before_no_unit_and_too_much(self):
        self.check(FUND, convert(1, 4, 1), -4)
        self.check(MANY_UNITS, convert(2, 0, 1), -1)


class JoinRefusals(RefusalCase):
    def test_first_class(self):
        self.check_classes(FUND, lambda c: join(c, 2))
        self.check(NO_CLASSES, join(1, 2), -4)

    def test_first_class_before_second_class(self):
        self.check(FUND, join(4, 0), -4)
        self.check(FUND, join(0, 4), -1)

    def test_no_units(self):
        self.check(FUND, join(3, 1), -9)
        self.check(NO_SHARES, join(1, 2), -9)

    def test_no_units_before_second_class_and_the_same_class(self):
        for d, refusal in WRONG_CLASSES:
            self.check(FUND, join(3, d), -9)
        self.check(FUND, join(3, 3), -9)

    def test_first_class_before_no_units(self):
        self.check(NO_SHARES, join(3, 1), -4)
        self.check(NO_SHARES, join(7, 1), -1)

    def test_second_class(self):
        self.check_classes(FUND, lambda d: join(1, d))

    def test_the_same_class(self):
        self.check(FUND, join(1, 1), -6)
        self.check(MANY_UNITS, join(1, 1), -6)

    def test_no_unit(self):
        # Class 2 has 9 shares, a start of 10 wants more.
        setup = [open_(1), open_(1), open_(10), create(1, 1)]
        self.check(setup + [convert(1, 2, 9)], join(2, 3), -6)
        self.assertEqual(last(setup, convert(1, 2, 10), join(2, 3)), [1, 10])

    def test_too_much(self):
        self.check(MANY_UNITS, join(2, 1), -8)


class SplitRefusals(RefusalCase):
    def test_times(self):
        for times in (LEAST, -1, 0, 1, 1001, MOST):
            self.check(FUND, split(1, times), -1)
            self.check(FUND, split(3, times), -1)
        self.assertEqual(last(FUND, split(2, 2)), [80000])
        self.assertEqual(last(FUND, split(2, 1000)), [40000000])

    def test_class(self):
        self.check_classes(FUND, lambda c: split(c, 2))
        self.check(NO_CLASSES, split(1, 2), -4)

    def test_times_before_class(self):
        for times in (LEAST, 1, 1001, MOST):
            self.check(FUND, split(4, times), -1)

    def test_too_much(self):
        self.check(MANY_UNITS, split(1, 2), -8)
        self.check(MANY_UNITS, split(1, 1000), -8)

    def test_times_and_class_before_too_much(self):
        self.check(MANY_UNITS, split(1, 1001), -1)
        self.check(MANY_UNITS, split(3, 2), -4)


class RateAndDaysCase(RefusalCase):
    def check_rate_and_days(self, setup, make):
        for rate in WRONG_RATES:
            self.check(setup, make(rate, 1), -1)
        for days in WRONG_DAYS:
            self.check(setup, make(1, days), -1)
            self.check(setup, make(0, days), -1)
        self.check(setup, make(-1, 0), -1)
        self.check(setup, make(MOST, LEAST), -1)

    def check_ends(self, setup, make, zeros, most):
        self.assertEqual(last(setup, make(0, 1)), zeros)
        self.assertEqual(last(setup, make(0, MOST_DAYS)), zeros)
        self.assertEqual(last(setup, make(1, 1)), zeros)
        self.assertEqual(last(setup, make(MOST_RATE, MOST_DAYS)), most)


class FeeRefusals(RateAndDaysCase):
    def test_rate_and_days(self):
        self.check_rate_and_days(FUND, fee)
        self.check_ends(FUND, fee, [0, 0, 0], [6, 4, 0])

    def test_nothing_to_reckon_by(self):
        for setup in (NO_CLASSES, NO_SHARES, NO_VALUE, FUND + [cancel(1, 60000000), cancel(2, 40000)]):
            self.check(setup, fee(0, 1), -9)
            self.check(setup, fee(MOST_RATE, MOST_DAYS), -9)

    def test_rate_and_days_before_nothing_to_reckon_by(self):
        for setup in (NO_CLASSES, NO_SHARES, NO_VALUE):
            self.check_rate_and_days(setup, fee)

    def test_more_than_there_is(self):
        # Class 2 has a single share, which is worth 1000000.
        single = [open_(1), open_(1), create(1, 1), convert(1, 2, 1), result(MOST_VALUE - 1)]
        self.check(single, fee(1, 365), -7)
        self.check(single, fee(MOST_RATE, MOST_DAYS), -7)
        self.assertEqual(last(single, fee(1, 364)), [997259, 0])

    def test_rate_and_days_before_more_than_there_is(self):
        single = [open_(1), open_(1), create(1, 1), convert(1, 2, 1), result(MOST_VALUE - 1)]
        self.check(single, fee(MOST_RATE, MOST_DAYS + 1), -1)
        self.check(single, fee(MOST_RATE + 1, MOST_DAYS), -1)


class OwedRefusals(RateAndDaysCase):
    def test_rate_and_days(self):
        self.check_rate_and_days(FUND, owed)
        self.check_ends(FUND, owed, [0, 0, 0], [6, 4, 0])

    def test_no_classes(self):
        self.check(NO_CLASSES, owed(0, 1), -9)
        self.check(NO_CLASSES, owed(MOST_RATE, MOST_DAYS), -9)

    def test_rate_and_days_before_no_classes(self):
        self.check_rate_and_days(NO_CLASSES, owed)

    def test_no_shares_and_no_value_are_no_refusal(self):
        self.assertEqual(last(NO_SHARES, owed(MOST_RATE, MOST_DAYS)), [0, 0])
        self.assertEqual(last(NO_VALUE, owed(MOST_RATE, MOST_DAYS)), [0, 0, 0])


class ValuesRefusals(RefusalCase):
    def test_no_classes(self):
        self.check(NO_CLASSES, VALUES, -9)
        self.assertEqual(last(NO_SHARES, VALUES), [0, 0])


class PriceRefusals(RefusalCase):
    def test_class(self):
        self.check_classes(FUND, price)
        self.check(NO_CLASSES, price(1), -4)
        self.check(NO_CLASSES, price(0), -1)

    def test_no_units(self):
        self.check(FUND, price(3), -9)
        self.check(NO_SHARES, price(1), -9)
        self.check(FUND + [cancel(2, 40000)], price(2), -9)

    def test_class_before_no_units(self):
        self.check(NO_SHARES, price(3), -4)
        self.check(NO_SHARES, price(7), -1)


class WorthRefusals(RefusalCase):
    def test_units(self):
        for units in (LEAST, -1, MOST_ORDERED_UNITS + 1, MOST):
            self.check(FUND, worth(1, units), -1)
            self.check(MANY_UNITS, worth(1, units), -1)
        self.assertEqual(last(FUND, worth(1, 0)), [0])
        self.assertEqual(last(MANY_UNITS, worth(1, MOST_ORDERED_UNITS)), [0])

    def test_class(self):
        self.check_classes(FUND, lambda c: worth(c, 0))
        self.check_classes(FUND, lambda c: worth(c, 1))
        self.check(NO_CLASSES, worth(1, 0), -4)

    def test_units_before_class(self):
        for units in (LEAST, -1, MOST_ORDERED_UNITS + 1, MOST):
            self.check(FUND, worth(4, units), -1)

    def test_more_than_there_is(self):
        self.check(FUND, worth(1, 60000001), -7)
        self.check(FUND, worth(1, MOST_ORDERED_UNITS), -7)
        self.check(FUND, worth(2, 40001), -7)
        self.check(FUND, worth(3, 1), -7)
        self.check(NO_SHARES, worth(1, 1), -7)
        self.check(NO_VALUE, worth(1, 60000001), -7)

    def test_class_before_more_than_there_is(self):
        self.check(FUND, worth(4, MOST_ORDERED_UNITS), -4)
        self.check(FUND, worth(7, MOST_ORDERED_UNITS), -1)


class ClassRefusals(RefusalCase):
    def test_class(self):
        self.check_classes(FUND, class_)
        self.check(NO_CLASSES, class_(1), -4)
        self.check(NO_CLASSES, class_(6), -4)
        self.check(NO_CLASSES, class_(7), -1)


class DearerRefusals(RefusalCase):
    def test_first_class(self):
        self.check_classes(FUND, lambda c: dearer(c, 2))
        self.check(NO_CLASSES, dearer(1, 1), -4)

    def test_second_class(self):
        self.check_classes(FUND, lambda d: dearer(2, d))

    def test_first_class_before_second_class(self):
        self.check(FUND, dearer(4, 0), -4)
        self.check(FUND, dearer(4, 7), -4)
        self.check(FUND, dearer(0, 4), -1)
        self.check(FUND, dearer(7, 4), -1)

    def test_no_units(self):
        self.check(FUND, dearer(3, 1), -9)
        self.check(FUND, dearer(1, 3), -9)
        self.check(FUND, dearer(3, 3), -9)
        self.check(NO_SHARES, dearer(1, 2), -9)

    def test_both_classes_before_no_units(self):
        self.check_classes(FUND, lambda d: dearer(3, d))
        self.check_classes(FUND, lambda c: dearer(c, 3))


class WouldRefusals(RefusalCase):
    def check_as(self, setup, would, order, refusal):
        self.check(setup, would, refusal)
        self.assertEqual(last(setup, would, order), [refusal])

    def test_wouldcreate_is_refused_like_create(self):
        for setup, c, money, refusal in (
                (FUND, 1, 0, -1), (FUND, 1, MOST_MONEY + 1, -1), (FUND, 1, LEAST, -1), (FUND, 1, MOST, -1),
                (FUND, 4, 0, -1), (FUND, 0, 1, -1), (FUND, 7, 1, -1), (FUND, LEAST, 1, -1), (FUND, MOST, 1, -1),
                (FUND, 4, 1, -4), (NO_CLASSES, 1, 1, -4), (NO_VALUE, 4, 1, -4), (NO_VALUE, 1, 1, -9),
                (NO_VALUE, 3, MOST_MONEY, -9), (FULL_VALUE, 1, 9999, -6), (FULL_VALUE, 1, 10000, -8),
                (MANY_UNITS, 1, 1, -8)):
            self.check_as(setup, wouldcreate(c, money), create(c, money), refusal)
        self.assertEqual(last(FUND, wouldcreate(1, MOST_MONEY)), [10 ** 15, 10 ** 15])
        self.assertEqual(last(FUND, wouldcreate(1, 1)), [1000000, 1000000])

    def test_wouldcancel_is_refused_like_cancel(self):
        for setup, c, units, refusal in (
                (FUND, 1, 0, -1), (FUND, 1, MOST_ORDERED_UNITS + 1, -1), (FUND, 1, LEAST, -1), (FUND, 1, MOST, -1),
                (FUND, 4, 0, -1), (FUND, 0, 1, -1), (FUND, 7, 1, -1), (FUND, LEAST, 1, -1), (FUND, MOST, 1, -1),
                (FUND, 4, 1, -4), (NO_CLASSES, 1, 1, -4), (FUND, 4, MOST_ORDERED_UNITS, -4), (FUND, 1, 60000001, -7),
                (FUND, 3, 1, -7), (NO_SHARES, 1, 1, -7)):
            self.check_as(setup, wouldcancel(c, units), cancel(c, units), refusal)
        self.assertEqual(last(MANY_UNITS, wouldcancel(1, MOST_ORDERED_UNITS)), [0, 1])
        self.assertEqual(last(MANY_UNITS, wouldcancel(1, 1)), [0, 0])


class TheLeastAndTheMostNumber(RefusalCase):
    def test_in_every_argument_of_every_call(self):
        calls = [open_(1), create(1, 5), cancel(1, 5), result(5), cost(1, 5), gain(1, 5), convert(1, 2, 5000), join(1, 2),
                 split(1, 2), fee(5, 5), price(1), worth(1, 5), class_(1), wouldcreate(1, 5), wouldcancel(1, 5),
                 dearer(1, 2), owed(5, 5)]
        self.assertEqual([call[0] for call in calls], [number for number in range(1, 20) if number not in (11, 15)])
        for call in calls:
            self.assertGreaterEqual(last(FUND, call)[0], 0)
            for at in range(1, len(call)):
                for number in (LEAST, MOST):
                    self.check(FUND, call[:at] + (number,) + call[at + 1:], -1)


class AllSixClasses(unittest.TestCase):
    def test_the_sixth_class_takes_part_in_every_call(self):
        found = ask(*SIX_CLASSES, create(6, 6), result(6), cost(6, 3), gain(6, 3), split(6, 2), convert(6, 1, 2),
                    cancel(6, 1999998), create(6, 1), join(6, 5))
        self.assertEqual(found[6:], [[1000000, 6000000], [12], [1500000], [1500000], [2000000], [6, 6],
                                     [11, 5999994], [1, 6], [1, 6]])

    def test_the_sixth_class_is_told_of(self):
        found = ask(*SIX_CLASSES, create(6, 60), create(5, 40), VALUES, price(6), worth(6, 5000000), class_(6),
                    FUND_STATE, wouldcreate(6, 1), wouldcancel(6, 1000000), dearer(5, 6), owed(MOST_RATE, 365),
                    fee(MOST_RATE, 365), VALUES)
        self.assertEqual(found[8:], [[0, 0, 0, 0, 40, 60], [6000000, 6000000], [30], [10000000, 60000000, 6],
                                     [100, 100000000, 6], [166666, 1000000], [6, 6000000], [2], [0, 0, 0, 0, 4, 6],
                                     [0, 0, 0, 0, 4, 6], [0, 0, 0, 0, 36, 54]])


if __name__ == "__main__":
    unittest.main()
