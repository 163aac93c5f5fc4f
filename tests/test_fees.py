"""Fee and owed: what each class owes, what a fee takes, and when it is refused."""

import unittest

from tests.helper import (BEGIN, FUND_STATE, MOST_DAYS, MOST_RATE, VALUES, ask, cancel, class_, convert, cost, create,
                          fee, last, open_, owed, price, result, seen, split)

# Value 1000000; class 1: 60000000 units and shares; class 2 (start 1000): 40000 units, 40000000 shares.
TWO_CLASSES = [open_(1), open_(1000), create(1, 60), create(2, 40), result(999900)]
# Value 10 ** 12; class 1: 600000 units and shares; class 2: 400000. A share is worth 1000000.
DEAR_SHARES = [open_(1), open_(1), create(1, 1), convert(1, 2, 400000), result(10 ** 12 - 1)]
SIX_CLASSES = [open_(start) for start in range(1, 7)] + [create(c, 1000 * c) for c in range(1, 7)]


def few_shares(count, value):
    """1000000 shares, of which class 1 has none, class 3 so many and class 2 the others."""
    return [open_(1), open_(1), open_(1), create(2, 1), convert(2, 3, count), result(value - 1)]


class Owed(unittest.TestCase):
    def test_a_year(self):
        self.assertEqual(last(TWO_CLASSES, owed(100000, 365)), [60000, 40000])
        self.assertEqual(last(TWO_CLASSES, owed(10000, 73)), [1200, 800])

    def test_rounded_down_for_each_class(self):
        # 600000 and 400000 over 3650 are 164.4 and 109.6; of all together it would be 273.97.
        self.assertEqual(last(TWO_CLASSES, owed(100000, 1)), [164, 109])

    def test_exactly_a_coin_and_a_little_less(self):
        # 1000000 over 365000000 times 365 is a coin.
        one_class = [open_(1), create(1, 1000000)]
        self.assertEqual(last(one_class, owed(1, 365)), [1])
        self.assertEqual(last(one_class, owed(1, 364)), [0])
        self.assertEqual(last(one_class, result(-1), owed(1, 365)), [0])

    def test_the_least_and_the_most(self):
        self.assertEqual(last(TWO_CLASSES, owed(0, 1)), [0, 0])
        self.assertEqual(last(TWO_CLASSES, owed(0, MOST_DAYS)), [0, 0])
        self.assertEqual(last(TWO_CLASSES, owed(1, 1)), [0, 0])
        self.assertEqual(last(TWO_CLASSES, owed(MOST_RATE, MOST_DAYS)), [60164, 40109])
        self.assertEqual(last([open_(1), create(1, 1), result(10 ** 12 - 1)], owed(MOST_RATE, MOST_DAYS)),
                         [100273972602])

    def test_no_shares(self):
        self.assertEqual(last([open_(1)], owed(100000, 365)), [0])
        self.assertEqual(last([open_(1), open_(2), open_(3)], owed(100000, 365)), [0, 0, 0])
        self.assertEqual(last([open_(1), create(1, 1), cancel(1, 1000000)], owed(100000, 365)), [0])

    def test_no_value(self):
        self.assertEqual(last(TWO_CLASSES, result(-1000000), owed(100000, 365)), [0, 0])

    def test_a_class_with_no_units_owes_0(self):
        self.assertEqual(last([open_(1), open_(1), open_(1), create(2, 1000)], owed(100000, 365)), [0, 100, 0])

    def test_six_classes(self):
        self.assertEqual(last(SIX_CLASSES, owed(100000, 365)), [100, 200, 300, 400, 500, 600])

    def test_nothing_changes(self):
        self.assertEqual(seen(TWO_CLASSES + [owed(100000, 365)]), seen(TWO_CLASSES))

    def test_does_not_ask_whether_a_fee_could_be_taken(self):
        self.assertEqual(last(few_shares(1, 10 ** 12), owed(100000, 365)), [0, 99999900000, 100000])


class Fee(unittest.TestCase):
    def test_answers_what_was_owed(self):
        for rate, days in ((100000, 365), (10000, 73), (100000, 1), (MOST_RATE, MOST_DAYS), (1, 1), (0, 5)):
            found = ask(*TWO_CLASSES, owed(rate, days), fee(rate, days))
            self.assertEqual(found[-1], found[-2])

    def test_shares_and_value_are_less_and_units_stay(self):
        found = ask(*TWO_CLASSES, fee(100000, 365), FUND_STATE, class_(1), class_(2), VALUES)
        self.assertEqual(found[5:], [[60000, 40000], [900000, 90000000, 2], [60000000, 54000000, 1],
                                     [40000, 36000000, 1000], [540000, 360000]])

    def test_shares_are_rounded_up_for_each_class(self):
        # Value 1000001: 164 and 109 coins cost 16399.98 and 10899.99 shares.
        found = ask(*TWO_CLASSES, result(1), fee(100000, 1), class_(1), class_(2), FUND_STATE)
        self.assertEqual(found[6:], [[164, 109], [60000000, 59983600, 1], [40000, 39989100, 1000],
                                     [999728, 99972700, 2]])

    def test_an_exact_quotient_of_shares_stays(self):
        found = ask(*TWO_CLASSES, fee(100000, 1), class_(1), class_(2))
        self.assertEqual(found[5:], [[164, 109], [60000000, 59983600, 1], [40000, 39989100, 1000]])

    def test_all_is_reckoned_from_before(self):
        # Shares of 164.4 and 109.6 go as 165 and 110. Reckoned behind class 1's fee, class 2 would owe 109589108.
        found = ask(*DEAR_SHARES, fee(100000, 1), class_(1), class_(2), FUND_STATE)
        self.assertEqual(found[5:], [[164383561, 109589041], [600000, 599835, 1], [400000, 399890, 1],
                                     [10 ** 12 - 164383561 - 109589041, 999725, 2]])

    def test_a_later_fee_is_reckoned_from_what_is_left(self):
        found = ask(*TWO_CLASSES, fee(100000, 365), fee(100000, 365), FUND_STATE)
        self.assertEqual(found[5:], [[60000, 40000], [54000, 36000], [810000, 81000000, 2]])

    def test_later_calls_see_it(self):
        after = TWO_CLASSES + [fee(100000, 365)]
        self.assertEqual(last(after, cancel(1, 30000000)), [270000, 27000000])
        self.assertEqual(last(after, price(2)), [9000000000000, 9000000000000])
        self.assertEqual(last(after, create(2, 9)), [1, 900])
        self.assertEqual(last(after, cost(1, 9)), [900])
        self.assertEqual(last(after, split(1, 2)), [120000000])

    def test_a_rate_of_0_takes_nothing(self):
        for days in (1, MOST_DAYS):
            self.assertEqual(last(TWO_CLASSES, fee(0, days)), [0, 0])
            self.assertEqual(seen(TWO_CLASSES + [fee(0, days)]), seen(TWO_CLASSES))

    def test_less_than_a_coin_takes_nothing(self):
        self.assertEqual(last(TWO_CLASSES, fee(1, 1)), [0, 0])
        self.assertEqual(seen(TWO_CLASSES + [fee(1, 1)]), seen(TWO_CLASSES))

    def test_only_one_class_owes_a_coin(self):
        # The classes' values are 12 and 8: a tenth of these is 1.2 and 0.8.
        found = ask(*TWO_CLASSES, result(20 - 1000000), fee(100000, 365), FUND_STATE, class_(1), class_(2))
        self.assertEqual(found[6:], [[1, 0], [19, 95000000, 2], [60000000, 55000000, 1], [40000, 40000000, 1000]])

    def test_a_class_with_no_units_owes_0_and_is_no_hindrance(self):
        found = ask(open_(1), open_(1), open_(1), create(2, 1000), fee(100000, 365), FUND_STATE)
        self.assertEqual(found[4:], [[0, 100, 0], [900, 900000000, 3]])

    def test_six_classes(self):
        found = ask(*SIX_CLASSES, fee(100000, 365), FUND_STATE, class_(6))
        self.assertEqual(found[12:], [[100, 200, 300, 400, 500, 600], [18900, 18900000000, 6], [10 ** 9, 5400000000, 6]])

    def test_behind_begin(self):
        self.assertEqual(ask(*TWO_CLASSES, BEGIN, fee(1, 1), open_(1), create(1, 10), fee(100000, 365), FUND_STATE)[6:],
                         [[-9], [1], [10000000, 10000000], [1], [9, 9000000, 1]])


class FeeOfAllShares(unittest.TestCase):
    def check_refused(self, setup, call):
        self.assertEqual(last(setup, call), [-7])
        self.assertEqual(seen(setup + [call]), seen(setup))

    def test_all_of_a_class_s_shares(self):
        self.check_refused(few_shares(1, 10 ** 12), fee(100000, 365))
        self.check_refused(few_shares(1, 10 ** 12), fee(1, 365))

    def test_one_share_fewer(self):
        setup = few_shares(2, 10 ** 12)
        found = ask(*setup, fee(100000, 365), class_(3), FUND_STATE)
        self.assertEqual(found[6:], [[0, 99999800000, 200000], [2, 1, 1], [9 * 10 ** 11, 10 ** 6 - 1 - 100000, 3]])
        # The share that is left is all of the class's shares for the next fee.
        self.check_refused(setup + [fee(100000, 365)], fee(100000, 365))

    def test_a_coin_owed_or_not_makes_the_difference(self):
        # A tenth of what the one share is worth: exactly a coin, or just less.
        self.check_refused(few_shares(1, 10 ** 7), fee(100000, 365))
        self.assertEqual(last(few_shares(1, 10 ** 7 - 1), fee(100000, 365)), [0, 999998, 0])
        self.assertEqual(last(few_shares(1, 10 ** 7 - 1), fee(100000, 365), class_(3)), [1, 1, 1])

    def test_a_rate_of_0_takes_no_single_share(self):
        self.assertEqual(last(few_shares(1, 10 ** 12), fee(0, 366)), [0, 0, 0])

    def test_a_single_class_with_a_single_share(self):
        setup = [open_(1), create(1, 1), cancel(1, 999999), result(10 ** 12 - 1)]
        self.assertEqual(last(setup, FUND_STATE), [10 ** 12, 1, 1])
        self.check_refused(setup, fee(100000, 365))
        self.assertEqual(last(setup, fee(0, 365)), [0])

    def test_the_first_class_of_two(self):
        setup = [open_(1), open_(1), create(1, 1), convert(1, 2, 999999), result(10 ** 12 - 1)]
        self.check_refused(setup, fee(100000, 365))


if __name__ == "__main__":
    unittest.main()
