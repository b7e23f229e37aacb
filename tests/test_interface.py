"""What the interface says of squaretrees.net.answers."""

import builtins
import contextlib
import inspect
import io
import sys
import unittest
from unittest import mock

from squaretrees.net import answers
from tests.support import FAR

EVERY_CALL = [
    1, 3, 4, 1, -5, 6, 1, 7, -8, 8, 9, 10, 11, 0, 2, 12, 3, 1, 0, 0, 2, 0, 4, 2, 2, 5, -3, 6, 7, 20, 8,
    1, FAR, -FAR, 2, -FAR, 3, FAR, FAR, 0, 4, -FAR, FAR, 5, FAR, 7, -FAR, 11, FAR, -FAR, 8, 0, 9, 8,
]


class Untouchable(list):
    """A list that fails at once when something in it is changed."""

    def changed(self, *args, **kwargs):
        raise AssertionError("the list that was handed in is changed")

    __setitem__ = __delitem__ = __iadd__ = __imul__ = changed
    append = extend = insert = pop = remove = clear = sort = reverse = changed


class Form(unittest.TestCase):
    def test_its_one_argument(self):
        self.assertEqual(list(inspect.signature(answers).parameters), ["calls"])
        self.assertEqual(answers(calls=[0]), [1, 0])

    def test_each_answer_has_its_count_before_it(self):
        self.assertEqual(answers([0]), [1, 0])
        self.assertEqual(answers([8]), [1, 0])
        self.assertEqual(answers([9]), [1, -5])
        self.assertEqual(answers([12]), [2, 0, 0])
        self.assertEqual(answers([1, 3, 4, 8, 9]), [1, 0, 3, 1, 3, 4, 5, 0, 3, 4, 3, 4])
        self.assertEqual(answers([1, 3, 4, 1, 3, 4, 12, 11, 0, 1]), [1, 0, 1, 1, 4, 0, 1, 0, 1, 1, 0])

    def test_an_argument_is_no_call(self):
        self.assertEqual(answers([1, 0, 0, 1, 8, 9, 3, 0, 12, 10, 8]), [1, 0, 1, 1, 1, 0, 5, 2, 12, 10, 8, 9])

    def test_every_call_in_one_list(self):
        self.assertEqual(answers(EVERY_CALL), [
            1, 0, 1, 1, 1, 2, 7, 3, 3, 4, -5, 6, 7, -8, 5, 0, -5, -8, 7, 6, 1, 26, 1, 16, 6, 26, 2, 0, 1, 0, 2,
            1, 0, 1, 2, 1, 0, 1, 0, 1, 0, 1, 0, 5, 2, 40, 40, -120, 180,
            1, -1, 1, -3, 1, -1, 1, -1, 1, 0, 1, -1, 1, -3, 5, 2, 40, 40, -120, 180, 1, 0, 1, -5, 1, 0,
        ])

    def test_a_new_list_of_whole_numbers(self):
        given = answers(EVERY_CALL)
        self.assertIs(type(given), list)
        self.assertEqual([number for number in given if type(number) is not int], [])

    def test_a_hundred_calls(self):
        self.assertEqual(answers([1, 5, 6] + [3, 0, -FAR, FAR] * 99), [1, 0] + [1, -1] * 99)
        seven = [number for i in range(7) for number in (1, i * i, -i)]
        once = answers(seven + [12])[14:]
        self.assertEqual(answers(seven + [12] * 93)[14:], once * 93)


class Manners(unittest.TestCase):
    def test_what_is_handed_in_is_not_changed(self):
        calls = list(EVERY_CALL)
        answers(calls)
        self.assertEqual(calls, EVERY_CALL)

    def test_not_for_a_while_either(self):
        self.assertEqual(answers(Untouchable(EVERY_CALL)), answers(EVERY_CALL))

    def test_nothing_is_kept(self):
        self.assertEqual(answers([1, 3, 4, 8]), [1, 0, 3, 1, 3, 4])
        self.assertEqual(answers([8, 9, 10]), [1, 0, 1, -5, 1, 0])
        self.assertEqual(answers([1, 3, 4, 8]), [1, 0, 3, 1, 3, 4])
        first = answers(EVERY_CALL)
        copy = list(first)
        first.clear()
        self.assertEqual(answers(EVERY_CALL), copy)

    def test_it_prints_reads_and_imports_nothing(self):
        out, err, refused = io.StringIO(), io.StringIO(), mock.Mock(side_effect=AssertionError)
        with contextlib.redirect_stdout(out), contextlib.redirect_stderr(err), \
                mock.patch.object(sys, "stdin", None), \
                mock.patch.object(builtins, "open", refused), \
                mock.patch.object(builtins, "input", refused), \
                mock.patch.object(builtins, "__import__", refused):
            answers(EVERY_CALL)
        self.assertEqual((out.getvalue(), err.getvalue(), refused.call_count), ("", "", 0))

    def test_long_lists_are_gone_through_by_loops(self):
        calls = ([1, 5, 6] * 7 + [3, 0, 1, 1] * 93)
        before = sys.getrecursionlimit()
        sys.setrecursionlimit(len(inspect.stack()) + 20)
        try:
            given = answers(calls)
        finally:
            sys.setrecursionlimit(before)
        self.assertEqual(len(given), 200)


if __name__ == "__main__":
    unittest.main()
