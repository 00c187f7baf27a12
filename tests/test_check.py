"""Promise 14: check."""

import unittest

from tests.asking import FAR, REDO, UNDO, ask, check, cut, last, put, rows, text

# Legs: 0 from A to B, 1 and 2 between B and C, 3 from A to C.
LAND = text(rows("P A", "P B", "P C", "L A B 10-20:3", "B B C 15-15:2,14-18:5,400-400:30", "N B 17-17", "N C 0-400",
                 "L A X 0-400:1", "L A C 0-0:1"))


class TestItineraries(unittest.TestCase):
    def test_no_starts(self):
        self.assertEqual(ask(LAND, check(0, 0, []), check(2, 17, []), check(1, 400, []))[1:],
                         [[1, 0, 0], [1, 2, 17], [1, 1, 400]])

    def test_one_start(self):
        self.assertEqual(ask(LAND, check(0, 0, [10, 0]), check(0, 20, [20, 0]), check(0, 0, [0, 3]))[1:],
                         [[1, 1, 13], [1, 1, 23], [1, 2, 1]])

    def test_several_starts(self):
        self.assertEqual(ask(LAND, check(0, 3, [11, 0, 15, 1]), check(0, 3, [11, 0, 16, 1]),
                             check(0, 3, [10, 0, 15, 1, 17, 2]))[1:],
                         [[1, 2, 17], [1, 2, 21], [1, 1, 22]])

    def test_the_first_window_that_has_the_day(self):
        self.assertEqual(ask(LAND, check(1, 14, [14, 1]), check(1, 14, [15, 1]))[1:], [[1, 2, 19], [1, 2, 17]])
        self.assertEqual(last(text("P A\nP B\nL A B 0-9:4,5-5:1"), check(0, 0, [5, 0])), [1, 1, 9])

    def test_a_start_on_the_day_of_arrival_without_a_stay(self):
        self.assertEqual(ask(LAND, check(0, 14, [14, 0, 17, 1]), check(2, 15, [15, 2, 17, 1]))[1:],
                         [[1, 2, 22], [1, 2, 22]])

    def test_one_may_be_behind_on_a_later_day_than_the_last(self):
        self.assertEqual(ask(LAND, check(1, 390, [400, 1]), check(2, 400, [400, 2]))[1:], [[1, 2, 430], [1, 1, 430]])
        self.assertEqual(last(text("P A\nP B\nB A B 380-400:30"), check(0, 380, [380, 0])), [1, 1, 410])

    def test_no_start_is_behind_the_last_day(self):
        self.assertEqual(last(LAND, check(1, 390, [400, 1, 400, 2])), [0, 1])
        self.assertEqual(last(text("P A\nP B\nB A B 380-400:30"), check(0, 380, [380, 0, 400, 1])), [0, 1])

    def test_thirty_starts(self):
        land = text("P A\nP B\nB A B 0-400:1\nN A 0-400\nN B 0-400")
        starts = [number for day in range(30) for number in (day, day % 2)]
        self.assertEqual(ask(land, check(0, 0, starts), check(0, 0, starts[:58]),
                             check(0, 0, starts[:-2] + [30, 1]))[1:],
                         [[1, 0, 30], [1, 1, 29], [0, 29]])


class TestNone(unittest.TestCase):
    def test_the_leg_begins_elsewhere(self):
        self.assertEqual(ask(LAND, check(1, 0, [10, 0]), check(0, 0, [15, 1]), check(0, 0, [10, 0, 15, 2]))[1:],
                         [[0, 0], [0, 0], [0, 1]])

    def test_one_is_not_there_yet(self):
        self.assertEqual(ask(LAND, check(0, 11, [10, 0]), check(0, 0, [13, 0, 15, 1]),
                             check(0, 0, [12, 0, 15, 1, 16, 2]), check(0, 0, [12, 0, 15, 1, 17, 2]))[1:],
                         [[0, 0], [0, 1], [0, 2], [1, 1, 22]])

    def test_one_can_not_stay(self):
        self.assertEqual(ask(LAND, check(0, 0, [10, 0, 18, 1]), check(1, 17, [18, 1]), check(1, 18, [18, 1]),
                             check(2, 14, [15, 2]), check(0, 14, [14, 0, 18, 1]))[1:],
                         [[0, 1], [0, 0], [1, 2, 23], [0, 0], [0, 1]])
        self.assertEqual(ask(text("P A\nP B\nL A B 7-8:1\nN A 7-7"), check(0, 0, [7, 0]), check(0, 0, [8, 0]))[1:],
                         [[1, 1, 8], [0, 0]])

    def test_the_leg_is_not_open(self):
        self.assertEqual(ask(LAND, check(0, 0, [9, 0]), check(0, 0, [21, 0]), check(0, 0, [10, 0, 13, 1]),
                             check(0, 18, [18, 0, 399, 1]), check(0, 0, [1, 3]))[1:],
                         [[0, 0], [0, 0], [0, 1], [0, 1], [0, 0]])

    def test_there_is_no_such_leg(self):
        for number in (4, 5, 100, 101, 400):
            with self.subTest(number=number):
                self.assertEqual(ask(LAND, check(0, 0, [0, number]), check(0, 0, [10, 0, 15, number]))[1:],
                                 [[0, 0], [0, 1]])
        self.assertEqual(last(text("P A"), check(0, 0, [0, 0])), [0, 0])

    def test_the_first_start_that_is_wrong(self):
        self.assertEqual(ask(LAND, check(0, 0, [9, 0, 15, 2, 0, 9]), check(0, 0, [10, 0, 0, 0, 15, 1]),
                             check(0, 0, [10, 0, 15, 1, 17, 2, 10, 0, 10, 0]))[1:],
                         [[0, 0], [0, 1], [0, 3]])


class TestRange(unittest.TestCase):
    def test_the_edges(self):
        self.assertEqual(ask(LAND, check(0, 0, [400, 400]), check(0, 0, [0, 0]), check(0, 0, [0, 400] * 30))[1:],
                         [[0, 0], [0, 0], [0, 0]])

    def test_numbers_out_of_range(self):
        for number in (-1, 401, -400, FAR, -FAR):
            for starts in ([number, 0], [10, number], [10, 0, number, 1], [10, 0, 15, number],
                           [10, 0] * 29 + [0, number], [number, number]):
                with self.subTest(starts=starts):
                    self.assertEqual(last(LAND, check(0, 0, starts)), [-1])

    def test_odd_counts(self):
        for count in (1, 3, 29, 31, 59, 61, 69):
            with self.subTest(count=count):
                self.assertEqual(last(LAND, check(0, 0, [10] * count)), [-1])

    def test_too_many_starts(self):
        self.assertEqual(last(LAND, check(0, 0, [10] * 60)), [0, 0])
        for count in (61, 62, 64, 70):
            with self.subTest(count=count):
                self.assertEqual(last(LAND, check(0, 0, [10] * count)), [-1])

    def test_the_row_is_passed_over_whole(self):
        self.assertEqual(ask(LAND, check(0, 0, [3] * 70), check(9, 0, [5]), check(0, 0, [10, 0]), UNDO, UNDO)[1:],
                         [[-1], [-1], [1, 1, 13], [0], [-4]])


class TestBehindChanges(unittest.TestCase):
    def test_the_land_is_that_of_the_lines(self):
        asked = check(0, 0, [10, 0])
        self.assertEqual(ask(LAND, asked, put(0, "L A C 0-9:1"), asked, UNDO, asked, cut(3), asked, UNDO, asked,
                             put(8, "N A 5-5"), asked, UNDO, REDO, asked)[1:],
                         [[1, 1, 13], [10], [0, 0], [9], [1, 1, 13], [8], [0, 0], [9], [1, 1, 13], [10], [0, 0], [9],
                          [10], [0, 0]])


if __name__ == "__main__":
    unittest.main()
