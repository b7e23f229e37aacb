"""What the interface says of squaretrees.net.answers."""

import builtins
import contextlib
import inspect
import io
import sys
import unittest
from unittest import mock

from squaretrees.net import answers
from tests.support import FAR

EVERY_CALL = [
    1, 3, 4, 1, -5, 6, 1, 7, -8, 8, 9, 10, 11, 0, 2, 12,
    13, 14, 15, 16, 17, 1, 1, 18, 0, 19, 20, 21, 0, 0, 22, 0, 22, 1, 23, 24,
    3, 1, 0, 0, 2, 0, 4, 2, 2, 5, -3, 6, 7, 20, 8,
    1, FAR, -FAR, 2, -FAR, 3, FAR, FAR, 0, 4, -FAR, FAR, 5, FAR, 7, -FAR, 11, FAR, -FAR,
    17, FAR, -FAR, 18, -FAR, 21, -FAR, FAR, 22, FAR, 8,
    0, 9, 19, 20, 22, 0, 22, -FAR, 13, 14, 15, 16, 23, 24, 8,
]
SEVEN = [1, 0, 0, 1, 7, 11, 1, -5, 8, 1, 12, -3, 1, 4, -9, 1, -8, -4, 1, 15, 6]
COSTLY = [13, 14, 15, 16, 17, 2, 2, 18, 3, 19, 23, 24]


class Untouchable(list):
    """A list that fails at once when something in it is changed."""

    def changed(self, *args, **kwargs):
        raise AssertionError("the list that was handed in is changed")

    __setitem__ = __delitem__ = __iadd__ = __imul__ = changed
    append = extend = insert = pop = remove = clear = sort = reverse = changed


class Form(unittest.TestCase):
    def test_its_one_argument(self):
        self.assertEqual(list(inspect.signature(answers).parameters), ["calls"])
        self.assertEqual(answers(calls=[0]), [1, 0])

    def test_each_answer_has_its_count_before_it(self):
        self.assertEqual(answers([0]), [1, 0])
        self.assertEqual(answers([8]), [1, 0])
        self.assertEqual(answers([9]), [1, -5])
        self.assertEqual(answers([12]), [2, 0, 0])
        self.assertEqual(answers([1, 3, 4, 8, 9]), [1, 0, 3, 1, 3, 4, 5, 0, 3, 4, 3, 4])
        self.assertEqual(answers([1, 3, 4, 1, 3, 4, 12, 11, 0, 1]), [1, 0, 1, 1, 4, 0, 1, 0, 1, 1, 0])

    def test_an_argument_is_no_call(self):
        self.assertEqual(answers([1, 0, 0, 1, 8, 9, 3, 0, 12, 10, 8]), [1, 0, 1, 1, 1, 0, 5, 2, 12, 10, 8, 9])

    def test_every_call_in_one_list(self):
        self.assertEqual(answers(EVERY_CALL), [
            1, 0, 1, 1, 1, 2, 7, 3, 3, 4, -5, 6, 7, -8, 5, 0, -5, -8, 7, 6, 1, 26, 1, 16, 6, 26, 2, 0, 1, 0, 2,
            1, 26, 17, 4, 7, -8, 7, 4, -5, 4, 3, 4, -5, 4, -5, 6, 3, 4, 7, 4, 1, 0, 5, 2, -5, 4, 7, 4,
            1, 28, 1, 26, 2, 1, 1, 3, 26, 3, 4, 1, 33, 2, 26, 4, 2, 26, 3, 5, 26, 3, 1, 0, 2, 5, 52, 3, 0, 1, 2,
            1, 0, 1, 2, 1, 0, 1, 0, 1, 0, 1, 0, 5, 2, 40, 40, -120, 180,
            1, -1, 1, -3, 1, -1, 1, -1, 1, 0, 1, -1, 1, -3, 1, -1, 1, -3, 1, -1, 1, -4, 5, 2, 40, 40, -120, 180,
            1, 0, 1, -5, 1, -5, 1, -5, 1, -5, 1, -4, 1, 0, 1, 0, 1, 0, 1, 0, 2, 0, 0, 2, 0, 0, 1, 0,
        ])

    def test_a_new_list_of_whole_numbers(self):
        given = answers(EVERY_CALL)
        self.assertIs(type(given), list)
        self.assertEqual([number for number in given if type(number) is not int], [])

    def test_a_hundred_calls(self):
        self.assertEqual(answers([1, 5, 6] + [3, 0, -FAR, FAR] * 99), [1, 0] + [1, -1] * 99)
        once = answers(SEVEN + [12])[14:]
        self.assertEqual(answers(SEVEN + [12] * 93)[14:], once * 93)

    def test_a_hundred_calls_about_trees_and_orders(self):
        once = answers(SEVEN + COSTLY + [8])[14:]
        told = answers(SEVEN + (COSTLY + [8]) * 9 + [13] * 3)
        self.assertEqual(told, [number for i in range(7) for number in (1, i)] + once * 9 + [1, 63] * 3)
        self.assertEqual(answers(SEVEN[:18] + [17, 15, 6] * 94)[12:], [1, 63] * 94)
        self.assertEqual(once[-16:], [15, 7] + [number for i in range(0, 21, 3) for number in SEVEN[i + 1:i + 3]])


class Manners(unittest.TestCase):
    def test_what_is_handed_in_is_not_changed(self):
        calls = list(EVERY_CALL)
        answers(calls)
        self.assertEqual(calls, EVERY_CALL)

    def test_not_for_a_while_either(self):
        self.assertEqual(answers(Untouchable(EVERY_CALL)), answers(EVERY_CALL))

    def test_nothing_is_kept(self):
        self.assertEqual(answers([1, 3, 4, 8]), [1, 0, 3, 1, 3, 4])
        self.assertEqual(answers([8, 9, 10]), [1, 0, 1, -5, 1, 0])
        self.assertEqual(answers([1, 3, 4, 8]), [1, 0, 3, 1, 3, 4])
        self.assertEqual(answers(SEVEN + [13])[14:], [1, 63])
        self.assertEqual(answers([13, 14, 15, 16, 19, 23, 24]), [1, 0, 1, 0, 1, 0, 1, 0, 1, -5, 2, 0, 0, 2, 0, 0])
        self.assertEqual(answers([1, 0, 0, 1, 3, 4, 13, 15, 16]), [1, 0, 1, 1, 1, 7, 1, 0, 3, 1, 3, 0])
        first = answers(EVERY_CALL)
        copy = list(first)
        first.clear()
        self.assertEqual(answers(EVERY_CALL), copy)

    def test_it_prints_reads_and_imports_nothing(self):
        out, err, refused = io.StringIO(), io.StringIO(), mock.Mock(side_effect=AssertionError)
        with contextlib.redirect_stdout(out), contextlib.redirect_stderr(err), \
                mock.patch.object(sys, "stdin", None), \
                mock.patch.object(builtins, "open", refused), \
                mock.patch.object(builtins, "input", refused), \
                mock.patch.object(builtins, "__import__", refused):
            answers(EVERY_CALL)
        self.assertEqual((out.getvalue(), err.getvalue(), refused.call_count), ("", "", 0))

    def test_long_lists_are_gone_through_by_loops(self):
        calls = SEVEN + [3, 0, 1, 1] * 83 + COSTLY[:-1]
        before = sys.getrecursionlimit()
        sys.setrecursionlimit(len(inspect.stack()) + 20)
        try:
            given = answers(calls)
        finally:
            sys.setrecursionlimit(before)
        self.assertEqual(given, answers(calls))
        self.assertEqual(given[:180], [number for i in range(7) for number in (1, i)] + [1, 0] * 83)


if __name__ == "__main__":
    unittest.main()
