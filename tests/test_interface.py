"""The interface: how calls are handed in and how what is answered is given back."""

import contextlib
import io
import unittest

from seasonland.desk import answers
from tests.asking import (FAR, LEGS, PLACES, PRINT, REDO, UNDO, around, check, cut, days, latest, leg, open_legs, put,
                          safe, stay, text, way, when)

EVERY_CALL = (text("P A\nP B\nB A B 1-2:3") + put(3, "P A") + cut(3) + UNDO + REDO + PRINT + PLACES + LEGS + leg(1)
              + text([FAR]) + put(-FAR, [1]) + cut(9) + leg(9)
              + when(0, 0, 1) + days(0, 0, 1) + latest(0, 1, 9) + safe(0, 1, 9) + way(0, 0, 1) + check(0, 0, [2, 0])
              + check(0, 0, [3, 0]) + around(0, 0, 1, 0, 9) + open_legs(2) + stay(1, 0)
              + when(0, FAR, 1) + check(-FAR, 0, [FAR]) + around(0, 0, 0, 1, 0))

EVERY_ANSWER = [1, 3, 1, 4, 1, 3, 1, 4, 1, 3,
                21, 20, 80, 32, 65, 10, 80, 32, 66, 10, 66, 32, 65, 32, 66, 32, 49, 45, 50, 58, 51, 10,
                5, 2, 1, 65, 1, 66, 7, 2, 0, 1, 1, 1, 0, 1, 6, 1, 0, 1, 1, 2, 3,
                1, -1, 1, -1, 1, -4, 1, -4,
                1, 4, 3, 1, 4, 400, 1, 2, 3, 1, 0, 2, 4, 4, 1, 1, 0, 3, 1, 1, 5, 2, 0, 0, 1, -9, 3, 2, 0, 1, 1, 1,
                1, -1, 1, -1, 1, -9]


class Untouched(list):
    """A list that can't be changed, not for a while either."""

    def refuse(self, *given):
        raise AssertionError("what is handed in is changed")

    __setitem__ = __delitem__ = __iadd__ = __imul__ = refuse
    append = clear = extend = insert = pop = remove = reverse = sort = refuse


class TestAnswers(unittest.TestCase):
    def test_several_calls_in_one_list(self):
        self.assertEqual(answers(EVERY_CALL), EVERY_ANSWER)

    def test_one_call(self):
        self.assertEqual(answers([5]), [1, 0])
        self.assertEqual(answers([3]), [1, -4])
        self.assertEqual(answers([0, 0]), [1, 0])
        self.assertEqual(answers([1, 0, 0]), [1, 1])
        self.assertEqual(answers([2, 5]), [1, -4])
        self.assertEqual(answers([8, -1]), [1, -1])
        self.assertEqual(answers([9, 0, 0, 0]), [1, -1])
        self.assertEqual(answers([14, 0, 0, 0]), [1, -1])
        self.assertEqual(answers([15, 0, 0, 0, 0, 0]), [1, -1])
        self.assertEqual(answers([16, 0]), [1, 0])
        self.assertEqual(answers([17, 0, 0]), [1, -1])

    def test_rows_that_are_refused_are_passed_over_whole(self):
        self.assertEqual(answers(text([5] * 2010) + PRINT), [1, -1, 1, 0])
        self.assertEqual(answers(put(0, [300] * 210) + PRINT), [1, -1, 1, 0])
        self.assertEqual(answers(text([3, 10, 4]) + PRINT), [1, -101, 1, 0])

    def test_numbers_in_rows_are_no_calls(self):
        self.assertEqual(answers(text([0, 1, 2, 3]) + put(0, [5]) + cut(5)), [1, -101, 1, -2, 1, -4])
        self.assertEqual(answers(check(5, 6, [7, 16, 16]) + PRINT), [1, -1, 1, 0])

    def test_the_list_handed_in_stays(self):
        calls = list(EVERY_CALL)
        answers(calls)
        self.assertEqual(calls, EVERY_CALL)
        self.assertEqual(answers(Untouched(EVERY_CALL)), EVERY_ANSWER)

    def test_what_is_given_back_is_a_list_of_its_own(self):
        calls = list(EVERY_CALL)
        told = answers(calls)
        self.assertIsInstance(told, list)
        self.assertEqual({type(number) for number in told}, {int})
        told.clear()
        self.assertEqual(answers(calls), EVERY_ANSWER)

    def test_nothing_is_kept(self):
        first = answers(EVERY_CALL)
        self.assertEqual(answers(EVERY_CALL), first)
        self.assertEqual(answers(UNDO + REDO + PRINT + PLACES + LEGS + open_legs(2) + stay(0, 0)),
                         [1, -4, 1, -4, 1, 0, 1, 0, 1, 0, 1, 0, 1, -1])

    def test_nothing_is_printed(self):
        caught = io.StringIO()
        with contextlib.redirect_stdout(caught), contextlib.redirect_stderr(caught):
            answers(EVERY_CALL)
        self.assertEqual(caught.getvalue(), "")

    def test_as_long_as_can_be(self):
        calls = text([10] * 40) + text([10] * 2010) * 7 + PRINT * 142
        self.assertEqual(answers(calls), [1, 40] + [1, -1] * 7 + ([41, 40] + [10] * 40) * 142)


if __name__ == "__main__":
    unittest.main()
