"""What is handed in, what is given back, and that nothing is kept."""

import contextlib
import io
import random
import unittest
from unittest import mock

from tests.helper import (BEGIN, FUND_STATE, VALUES, ask, cancel, class_, convert, cost, create, dearer, fee, gain, join,
                          open_, owed, price, result, split, worth, wouldcancel, wouldcreate, written)
from unitclasses.fund import answers

EVERY_CALL = [BEGIN, open_(1), open_(2), create(1, 10), create(2, 10), cancel(1, 5), result(7), cost(1, 2), gain(2, 3),
              fee(100000, 366), VALUES, price(1), worth(1, 7), class_(2), FUND_STATE, wouldcreate(1, 3),
              wouldcancel(2, 9), dearer(1, 2), owed(50000, 100), convert(1, 2, 9), split(1, 3), join(2, 1),
              create(7, 1), BEGIN, create(1, 1), open_(1)]


class Interface(unittest.TestCase):
    def test_a_count_stands_ahead_of_each_answer(self):
        self.assertEqual(answers([0]), [1, 0])
        self.assertEqual(answers([1, 1, 2, 1, 5, 4, 1, 4, 9]), [1, 1, 2, 5000000, 5000000, 1, 6, 1, 15])

    def test_a_refusal_is_one_number(self):
        self.assertEqual(answers([2, 1, 1, 7, 1, 2, 3, 8, 1, 2, 1, 0]), [1, -4, 1, -4, 1, -4, 1, -1])
        self.assertEqual(answers([10, 1, 1, 11, 12, 1, 13, 1, 0, 14, 7, 16, 1, 1, 17, 1, 1, 18, 1, 1, 19, 1, 0]),
                         [1, -9, 1, -9, 1, -4, 1, -4, 1, -1, 1, -4, 1, -4, 1, -4, 1, -1])

    def test_every_call_is_read_with_its_numbers(self):
        setup = [1, 1, 1, 1, 2, 1, 5, 2, 2, 5]
        given_back = [1, 1, 1, 2, 2, 5000000, 5000000, 2, 5000000, 5000000]
        self.assertEqual(answers(setup), given_back)
        for call, answer in (([0], [1, 0]), ([1, 1], [1, 3]), ([2, 1, 1], [2, 1000000, 1000000]),
                             ([3, 1, 1000000], [2, 1, 1000000]), ([4, 10], [1, 20]), ([5, 1, 2], [1, 2000000]),
                             ([6, 1, 2], [1, 2000000]), ([7, 1, 2, 4], [2, 4, 4]), ([8, 1, 2], [2, 5000000, 5000000]),
                             ([9, 1, 3], [1, 15000000]), ([10, 0, 1], [2, 0, 0]), ([11], [2, 5, 5]),
                             ([12, 1], [2, 1000000, 1000000]), ([13, 1, 3000000], [1, 3]),
                             ([14, 1], [3, 5000000, 5000000, 1]), ([15], [3, 10, 10000000, 2]),
                             ([16, 1, 1], [2, 1000000, 1000000]), ([17, 1, 1000000], [2, 1, 1000000]),
                             ([18, 1, 2], [1, 0]), ([19, 100000, 1], [2, 0, 0])):
            self.assertEqual(answers(setup + call + [0]), given_back + answer + [1, 0])

    def test_one_number_for_each_class_and_no_count_of_them(self):
        for count in range(1, 7):
            setup = written([open_(1)] * count + [create(1, 1000)])
            given_back = answers(setup)
            for call, first in (([11], 1000), ([10, 100000, 365], 100), ([19, 100000, 365], 100)):
                self.assertEqual(answers(setup + call), given_back + [count, first] + [0] * (count - 1))

    def test_every_call_behind_every_other(self):
        # In any order: each call's answer is the same when calls that only tell stand between.
        telling = [VALUES, price(1), worth(1, 7), class_(2), FUND_STATE, wouldcreate(1, 3), wouldcancel(2, 9),
                   dearer(1, 2), owed(50000, 100)]
        plain = ask(*EVERY_CALL)
        for between in telling:
            found = ask(*[call for one in EVERY_CALL for call in (one, between)])
            self.assertEqual(found[::2], plain)

    def test_calls_that_only_tell_answer_alike_in_any_order(self):
        setup = EVERY_CALL[:10]
        telling = [call for call in EVERY_CALL if call[0] > 10]
        alone = {call: ask(*setup, call)[-1] for call in telling}
        source = random.Random(1)
        for turn in range(20):
            source.shuffle(telling)
            self.assertEqual(ask(*setup, *telling)[len(setup):], [alone[call] for call in telling])

    def test_what_is_handed_in_is_the_same_afterwards(self):
        calls = written(EVERY_CALL)
        before = list(calls)
        answers(calls)
        self.assertEqual(calls, before)

    def test_what_is_handed_in_is_never_changed_on_the_way(self):
        class Locked(list):
            def refuse(self, *given):
                raise AssertionError("the list handed in was to be changed")
            append = extend = insert = pop = remove = clear = reverse = sort = refuse
            __setitem__ = __delitem__ = __iadd__ = __imul__ = refuse

        calls = written(EVERY_CALL)
        self.assertEqual(answers(Locked(calls)), answers(calls))

    def test_twice_the_same(self):
        calls = written(EVERY_CALL)
        self.assertEqual(answers(calls), answers(calls))

    def test_nothing_is_kept(self):
        first = answers([1, 1])
        answers(written(EVERY_CALL))
        self.assertEqual(answers([1, 1]), first)
        self.assertEqual(answers([2, 1, 1]), [1, -4])

    def test_what_is_given_back_is_the_asker_s_own(self):
        first = answers([1, 1])
        first.append(5)
        self.assertEqual(answers([1, 1]), [1, 1])

    def test_whole_numbers_in_a_list(self):
        given_back = answers(written(EVERY_CALL))
        self.assertIs(type(given_back), list)
        self.assertEqual({type(number) for number in given_back}, {int})

    def test_nothing_is_printed(self):
        with contextlib.redirect_stdout(io.StringIO()) as out, contextlib.redirect_stderr(io.StringIO()) as err:
            answers(written(EVERY_CALL))
        self.assertEqual((out.getvalue(), err.getvalue()), ("", ""))

    def test_nothing_is_read_or_imported(self):
        calls = written(EVERY_CALL)
        wanted = answers(calls)
        refuse = mock.Mock(side_effect=AssertionError("something was read or imported"))
        with mock.patch("builtins.__import__", refuse), mock.patch("builtins.open", refuse), \
                mock.patch("builtins.input", refuse):
            given_back = answers(calls)
        self.assertEqual(given_back, wanted)

    def test_the_longest_line(self):
        calls = [open_(1), open_(1), create(1, 1000)] + [convert(1, 2, 1)] * 397
        given_back = answers(written(calls))
        self.assertEqual(len(written(calls)), 2 + 2 + 3 + 397 * 4)
        self.assertEqual(given_back[7:], [2, 1, 1] * 397)

    def test_a_number_answered_may_be_beyond_63_bits(self):
        line = [open_(1), create(1, 10 ** 9)] + [split(1, 1000)] * 3
        self.assertEqual(answers(written(line))[-1], 10 ** 24)
        self.assertEqual(answers(written(line + [class_(1)]))[-3:], [10 ** 24, 10 ** 15, 1])
        self.assertEqual(answers(written([open_(1000000), create(1, 1), result(10 ** 12 - 1), price(1)]))[-2:],
                         [10 ** 24, 10 ** 24])

    def test_the_longest_answers(self):
        calls = [open_(1)] * 6 + [create(1, 6)] + [VALUES] * 393
        self.assertEqual(answers(written(calls))[15:], [6, 6, 0, 0, 0, 0, 0] * 393)


if __name__ == "__main__":
    unittest.main()
