"""The calls 9 to 17: what each refuses with -1, that this comes first, and that these calls change nothing."""

import unittest

from tests.asking import (FAR, LEGS, PLACES, PRINT, REDO, UNDO, around, ask, check, cut, days, last, latest, open_legs,
                          put, rows, safe, stay, text, way, when)

# Each call with numbers that are in their ranges, and for each number which range it is.
ASKED = ((when(0, 3, 1), "pdp"), (days(0, 3, 1), "pdp"), (latest(0, 1, 9), "ppd"), (safe(0, 1, 9), "ppd"),
         (way(0, 3, 1), "pdp"), (check(0, 3, []), "pd"), (around(0, 3, 1, 2, 9), "pdpsd"), (open_legs(3), "d"),
         (stay(0, 3), "pd"))

OUTSIDE = {"p": (-1, -2, 3, 4, 11, 12, 400, FAR, -FAR), "d": (-1, -2, 401, 402, 1000, FAR, -FAR),
           "s": (-1, -2, 101, 102, 400, FAR, -FAR)}
INSIDE = {"p": (0, 1, 2), "d": (0, 1, 399, 400), "s": (0, 1, 99, 100)}

# Neither can one go from C nor to it.
LAND = text(rows("P A", "P B", "P C", "B A B 0-400:2", "L A X 0-400:1", "N C 5-5"))


def with_number(call, at, number):
    return call[:at] + [number] + call[at + 1:]


class TestRanges(unittest.TestCase):
    def test_each_number_out_of_its_range(self):
        for call, ranges in ASKED:
            for at, sign in enumerate(ranges, 1):
                for number in OUTSIDE[sign]:
                    with self.subTest(call=call, at=at, number=number):
                        self.assertEqual(last(LAND, with_number(call, at, number)), [-1])

    def test_each_number_at_the_edges_of_its_range(self):
        for call, ranges in ASKED:
            for at, sign in enumerate(ranges, 1):
                for number in INSIDE[sign]:
                    with self.subTest(call=call, at=at, number=number):
                        self.assertNotEqual(last(LAND, with_number(call, at, number)), [-1])

    def test_there_are_no_places(self):
        for call, ranges in ASKED:
            told = [0] if ranges == "d" else [-1]
            with self.subTest(call=call):
                self.assertEqual(ask(call, text(""), call, text("L A B 0-9:1\nN A 0-9"), call)[::2], [told] * 3)

    def test_a_place_may_come_and_go(self):
        for call, ranges in ASKED:
            if ranges.count("p") == 2:
                with self.subTest(call=call):
                    self.assertEqual(last(text("P A"), call), [-1])
                    self.assertNotEqual(last(text("P A"), put(1, "P B"), call), [-1])
                    self.assertEqual(last(text("P A\nP B"), cut(0), call), [-1])
                    self.assertNotEqual(last(text("P A\nP B"), cut(0), UNDO, call), [-1])

    def test_twelve_places(self):
        land = text(rows(*[f"P A{i}" for i in range(12)], "B A0 A11 0-400:1"))
        self.assertEqual(ask(land, when(0, 0, 11), when(11, 0, 0), stay(11, 0), stay(12, 0), when(0, 0, 12))[1:],
                         [[1], [1], [1], [-1], [-1]])


class TestOrderOfRefusals(unittest.TestCase):
    def test_out_of_range_comes_before_no_day(self):
        for call in (when(2, 0, 0), latest(2, 0, 400), way(0, 0, 2), around(0, 0, 2, 0, 400)):
            self.assertEqual(last(LAND, call), [-9])
            for at in range(1, len(call)):
                with self.subTest(call=call, at=at):
                    self.assertEqual(last(LAND, with_number(call, at, -1)), [-1])
                    self.assertEqual(last(LAND, with_number(call, at, 401)), [-1])

    def test_out_of_range_comes_before_a_wrong_start(self):
        self.assertEqual(last(LAND, check(0, 0, [0, 9])), [0, 0])
        self.assertEqual(last(LAND, check(0, 0, [0, 9, 401, 0])), [-1])
        self.assertEqual(last(LAND, check(0, 0, [0, 9, 0])), [-1])
        self.assertEqual(last(LAND, check(3, 0, [0, 9])), [-1])


class TestNothingIsChanged(unittest.TestCase):
    CALLS = [call for call, ranges in ASKED]
    CALLS += [with_number(call, at, -1) for call in CALLS for at in range(1, len(call))
              if call[0] != 14 or at < 3]
    CALLS += [check(0, 0, [0] * 62), check(0, 0, [0]), check(0, 0, [401, 0]), check(0, 0, [0, 0]), check(0, 0, [0, 9]),
              when(2, 0, 0), latest(2, 0, 400), way(0, 0, 2), around(0, 0, 2, 0, 400)]

    def test_lines_stay(self):
        for call in self.CALLS:
            with self.subTest(call=call):
                self.assertEqual(ask(LAND, call, PRINT, PLACES, LEGS)[2:], ask(LAND, PRINT, PLACES, LEGS)[1:])

    def test_what_can_be_undone_and_done_again_stays(self):
        edits = [put(0, "#"), cut(1), UNDO, REDO, UNDO, UNDO, UNDO, UNDO, REDO, REDO, REDO, REDO]
        for call in self.CALLS:
            with self.subTest(call=call):
                between = [each for edit in edits for each in (edit, call)]
                self.assertEqual(ask(LAND, call, *between)[2::2],
                                 [[7], [6], [7], [6], [7], [6], [0], [-4], [6], [7], [6], [-4]])

    def test_an_answer_comes_again(self):
        told = ask(LAND, *self.CALLS)[1:]
        self.assertEqual(ask(LAND, *self.CALLS[::-1])[1:], told[::-1])


if __name__ == "__main__":
    unittest.main()
