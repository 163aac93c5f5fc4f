"""Each call on ordinary inputs: its answers, and what later calls answer because of it."""

import unittest

from tests.helper import (BEGIN, ask, cancel, convert, cost, create, gain, join, last, open_, result, seen, split)

# Value 100; class 1 (start 1): 60000000 units and shares; class 2 (start 1000): 40000 units, 40000000 shares.
TWO_CLASSES = [open_(1), open_(1000), create(1, 60), create(2, 40)]


class Begin(unittest.TestCase):
    def test_answers_0_on_a_new_fund(self):
        self.assertEqual(ask(BEGIN), [[0]])

    def test_the_fund_is_new_in_the_midst_of_a_line(self):
        self.assertEqual(seen(TWO_CLASSES + [BEGIN]), seen([BEGIN]))
        self.assertEqual(last(TWO_CLASSES, BEGIN), [0])
        self.assertEqual(last(TWO_CLASSES, BEGIN, create(1, 1)), [-4])
        self.assertEqual(last(TWO_CLASSES, BEGIN, result(0)), [-9])

    def test_classes_are_numbered_from_1_again_with_their_new_start(self):
        self.assertEqual(ask(*TWO_CLASSES, BEGIN, open_(500), create(1, 1))[-2:], [[1], [2000, 1000000]])

    def test_the_old_value_is_gone(self):
        self.assertEqual(ask(*TWO_CLASSES, BEGIN, open_(1), create(1, 7), result(0))[-2:], [[7000000, 7000000], [7]])

    def test_begin_twice(self):
        self.assertEqual(ask(open_(1), BEGIN, BEGIN, open_(1)), [[1], [0], [0], [1]])


class Open(unittest.TestCase):
    def test_numbers_in_order(self):
        self.assertEqual(ask(open_(1), open_(5), open_(5), open_(2), open_(9), open_(3)),
                         [[1], [2], [3], [4], [5], [6]])

    def test_a_new_class_is_empty(self):
        self.assertEqual(last([open_(1)], split(1, 2)), [0])
        self.assertEqual(last([open_(1)], cancel(1, 1)), [-7])

    def test_each_class_keeps_its_own_start(self):
        self.assertEqual(ask(open_(2), open_(8), create(1, 1), create(2, 1))[2:], [[500000, 1000000], [125000, 1000000]])

    def test_a_class_may_come_later(self):
        self.assertEqual(ask(open_(1), create(1, 10), open_(10), create(2, 5))[2:], [[2], [500000, 5000000]])


class Create(unittest.TestCase):
    def test_the_first_money_brings_a_million_shares_a_coin(self):
        self.assertEqual(ask(open_(1), create(1, 60)), [[1], [60000000, 60000000]])

    def test_units_are_shares_over_the_start_rounded_down(self):
        self.assertEqual(last([open_(3)], create(1, 1)), [333333, 1000000])
        self.assertEqual(last([open_(999999)], create(1, 2)), [2, 2000000])

    def test_later_money_brings_shares_by_the_value(self):
        self.assertEqual(last(TWO_CLASSES, create(1, 50)), [50000000, 50000000])
        self.assertEqual(last(TWO_CLASSES, result(100), create(1, 50)), [25000000, 25000000])

    def test_shares_are_rounded_down(self):
        # 1 * 100000000 over 7
        self.assertEqual(last(TWO_CLASSES, result(-93), create(1, 1)), [14285714, 14285714])

    def test_units_are_rounded_down_from_the_rounded_shares(self):
        # shares 14285714; units 40000 * 14285714 over 40000000 is 14285.714
        self.assertEqual(last(TWO_CLASSES, result(-93), create(2, 1)), [14285, 14285714])

    def test_rounding_twice_is_not_rounding_once(self):
        # Shares 3 * 1000000 over 7 is 428571.4; of these, 7000000 * 428571 over 1000000 is 2999997, not 3000000.
        self.assertEqual(last([open_(1), create(1, 1), split(1, 7), result(6)], create(1, 3)), [2999997, 428571])

    def test_value_units_and_shares_are_more(self):
        after = TWO_CLASSES + [create(2, 10)]
        self.assertEqual(last(after, result(0)), [110])
        self.assertEqual(last(after, split(2, 2)), [100000])
        self.assertEqual(last(after, cancel(2, 50000)), [50, 50000000])
        self.assertEqual(last(after, cancel(1, 60000000)), [60, 60000000])

    def test_an_empty_class_takes_its_start_while_others_have_shares(self):
        self.assertEqual(last([open_(1), open_(7), create(1, 1)], result(1), create(2, 1)), [71428, 500000])

    def test_an_emptied_class_takes_its_start_again(self):
        emptied = [open_(4), create(1, 1), split(1, 10), cancel(1, 2500000)]
        self.assertEqual(ask(*emptied, create(1, 2))[3:], [[1, 1000000], [500000, 2000000]])


class Cancel(unittest.TestCase):
    def test_money_and_shares(self):
        self.assertEqual(last(TWO_CLASSES, cancel(1, 30000000)), [30, 30000000])
        self.assertEqual(last(TWO_CLASSES, cancel(2, 10000)), [10, 10000000])

    def test_value_units_and_shares_are_less(self):
        after = TWO_CLASSES + [cancel(2, 10000)]
        self.assertEqual(last(after, result(0)), [90])
        self.assertEqual(last(after, split(2, 2)), [60000])
        self.assertEqual(last(after, cancel(2, 30000)), [30, 30000000])

    def test_shares_are_rounded_down(self):
        # 1000000 shares on 3000000 units: 2 of them have 0.67 shares, 4 have 1.33
        split_by_3 = [open_(1), create(1, 1), split(1, 3)]
        self.assertEqual(last(split_by_3, cancel(1, 2)), [0, 0])
        self.assertEqual(last(split_by_3, cancel(1, 4)), [0, 1])

    def test_money_is_rounded_down(self):
        self.assertEqual(last(TWO_CLASSES, cancel(1, 1999999)), [1, 1999999])
        self.assertEqual(last(TWO_CLASSES, cancel(1, 2000000)), [2, 2000000])

    def test_units_go_even_for_nothing(self):
        after = [open_(1), create(1, 1), split(1, 3), cancel(1, 2)]
        self.assertEqual(last(after, cancel(1, 2999999)), [-7])
        self.assertEqual(last(after, cancel(1, 2999998)), [1, 1000000])

    def test_money_is_of_the_rounded_shares(self):
        # Value 3000000 on 1000000 shares and 3000000 units: 5 units have 1 share, worth 3, not 5.
        self.assertEqual(last([open_(1), create(1, 1), split(1, 3), result(2999999)], cancel(1, 5)), [3, 1])

    def test_all_units_of_the_only_class_take_all_the_value(self):
        after = [open_(1), create(1, 7), result(13), cancel(1, 7000000)]
        self.assertEqual(last(after), [20, 7000000])
        self.assertEqual(last(after, result(0)), [-9])
        self.assertEqual(last(after, create(1, 2)), [2000000, 2000000])

    def test_all_units_of_one_of_two_classes(self):
        after = TWO_CLASSES + [cancel(1, 60000000)]
        self.assertEqual(last(after), [60, 60000000])
        self.assertEqual(last(after, split(1, 2)), [0])
        self.assertEqual(last(after, result(0)), [40])
        self.assertEqual(last(after, cancel(2, 40000)), [40, 40000000])


class Result(unittest.TestCase):
    def test_a_gain_and_a_loss(self):
        self.assertEqual(ask(*TWO_CLASSES, result(25), result(-75), result(0))[4:], [[125], [50], [50]])

    def test_all_classes_share_it(self):
        after = TWO_CLASSES + [result(100)]
        self.assertEqual(last(after, cancel(1, 60000000)), [120, 60000000])
        self.assertEqual(last(after, cancel(2, 40000)), [80, 40000000])

    def test_the_value_may_be_lost_and_come_again(self):
        self.assertEqual(ask(*TWO_CLASSES, result(-100), result(0), result(5))[4:], [[0], [0], [5]])
        self.assertEqual(last(TWO_CLASSES, result(-100), cancel(1, 60000000)), [0, 60000000])


class Cost(unittest.TestCase):
    def test_takes_shares_of_one_class(self):
        after = TWO_CLASSES + [cost(1, 10)]
        self.assertEqual(last(after), [10000000])
        self.assertEqual(last(after, result(0)), [90])
        self.assertEqual(last(after, split(1, 2)), [120000000])
        self.assertEqual(last(after, cancel(1, 60000000)), [50, 50000000])
        self.assertEqual(last(after, cancel(2, 40000)), [40, 40000000])

    def test_shares_are_rounded_up(self):
        # 1 * 100000000 over 7 is 14285714.3
        self.assertEqual(last(TWO_CLASSES, result(-93), cost(1, 1)), [14285715])

    def test_an_exact_quotient_stays(self):
        self.assertEqual(last(TWO_CLASSES, result(-92), cost(1, 1)), [12500000])
        self.assertEqual(last(TWO_CLASSES, result(-99), cost(1, 1)), [-7])

    def test_a_share_of_nearly_no_worth_is_still_taken(self):
        # Value 10 ** 12 on 2000000 shares: a cost of 1 is far less than a share.
        rich = [open_(1), create(1, 2), result(10 ** 12 - 2)]
        self.assertEqual(ask(*rich, cost(1, 1), result(0))[3:], [[1], [10 ** 12 - 1]])


class Gain(unittest.TestCase):
    def test_brings_shares_to_one_class_and_no_units(self):
        after = TWO_CLASSES + [gain(2, 50)]
        self.assertEqual(last(after), [50000000])
        self.assertEqual(last(after, result(0)), [150])
        self.assertEqual(last(after, split(2, 2)), [80000])
        self.assertEqual(last(after, cancel(2, 40000)), [90, 90000000])
        self.assertEqual(last(after, cancel(1, 60000000)), [60, 60000000])

    def test_shares_are_rounded_down(self):
        self.assertEqual(last(TWO_CLASSES, result(-93), gain(1, 1)), [14285714])

    def test_may_bring_no_shares(self):
        rich = [open_(1), create(1, 2), result(10 ** 12 - 3)]
        self.assertEqual(ask(*rich, gain(1, 1), result(0))[3:], [[0], [10 ** 12]])


class Convert(unittest.TestCase):
    def test_units_came_and_shares_went_over(self):
        after = TWO_CLASSES + [convert(1, 2, 30000000)]
        self.assertEqual(last(after), [30000, 30000000])
        self.assertEqual(last(after, result(0)), [100])
        self.assertEqual(last(after, split(1, 2)), [60000000])
        self.assertEqual(last(after, split(2, 2)), [140000])
        self.assertEqual(last(after, cancel(1, 30000000)), [30, 30000000])
        self.assertEqual(last(after, cancel(2, 70000)), [70, 70000000])

    def test_back_from_the_second_to_the_first(self):
        self.assertEqual(last(TWO_CLASSES, convert(2, 1, 1)), [1000, 1000])

    def test_shares_and_units_are_rounded_down(self):
        # 7 of 120000000 units have 3.5 shares; 3 shares bring 40000 * 1000 * 3 over 40000000 is 3 units
        setup = TWO_CLASSES + [split(1, 2), split(2, 1000)]
        self.assertEqual(last(setup, convert(1, 2, 7)), [3, 3])
        # 1999 shares bring 1.999 units
        self.assertEqual(last(TWO_CLASSES, convert(1, 2, 1999)), [1, 1999])

    def test_into_a_class_with_no_units_by_its_start(self):
        setup = [open_(1), open_(7), create(1, 60), split(1, 3)]
        after = setup + [convert(1, 2, 50)]
        self.assertEqual(last(after), [2, 16])
        self.assertEqual(last(after, split(2, 2)), [4])
        self.assertEqual(last(after, cancel(2, 2)), [0, 16])

    def test_all_units_empty_the_class(self):
        after = TWO_CLASSES + [convert(1, 2, 60000000)]
        self.assertEqual(last(after), [60000, 60000000])
        self.assertEqual(last(after, split(1, 2)), [0])
        self.assertEqual(last(after, cancel(2, 100000)), [100, 100000000])

    def test_while_the_value_is_0(self):
        self.assertEqual(last(TWO_CLASSES, result(-100), convert(1, 2, 1000)), [1, 1000])


class Join(unittest.TestCase):
    def test_is_convert_of_all_units(self):
        self.assertEqual(last(TWO_CLASSES, join(1, 2)), [60000, 60000000])
        self.assertEqual(seen(TWO_CLASSES + [join(1, 2)]), seen(TWO_CLASSES + [convert(1, 2, 60000000)]))
        self.assertEqual(seen(TWO_CLASSES + [join(2, 1)]), seen(TWO_CLASSES + [convert(2, 1, 40000)]))

    def test_into_a_class_with_no_units_by_its_start(self):
        self.assertEqual(last([open_(1), open_(7), create(1, 1)], join(1, 2)), [142857, 1000000])

    def test_the_emptied_class_stays_and_may_be_filled(self):
        after = TWO_CLASSES + [join(2, 1)]
        self.assertEqual(last(after), [40000000, 40000000])
        self.assertEqual(ask(*after, open_(1), create(2, 10))[5:], [[3], [10000, 10000000]])


class Split(unittest.TestCase):
    def test_units_are_more_and_shares_stay(self):
        after = TWO_CLASSES + [split(2, 5)]
        self.assertEqual(last(after), [200000])
        self.assertEqual(last(after, cancel(2, 200000)), [40, 40000000])
        self.assertEqual(last(after, cancel(1, 60000000)), [60, 60000000])
        self.assertEqual(last(after, result(0)), [100])

    def test_a_class_with_no_units_has_none_behind_it(self):
        self.assertEqual(ask(open_(1), split(1, 1000), create(1, 1)), [[1], [0], [1000000, 1000000]])


if __name__ == "__main__":
    unittest.main()
