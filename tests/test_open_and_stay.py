"""Promises 16 and 17: open and stay."""

import unittest

from tests.asking import REDO, UNDO, ask, cut, last, open_legs, put, rows, stay, text

# Legs: 0 from A to B, 1 and 2 between A and C, 3 from C to B.
LAND = text(rows("P A", "P B", "L A B 0-10:3,20-30:4,25-40:1", "L A X 0-400:1", "B A C 5-5:1", "B X C 0-400:1", "P C",
                 "L C B 10-400:30"))


class TestOpen(unittest.TestCase):
    def test_the_edges_of_windows(self):
        told = {0: [0], 4: [0], 5: [0, 1, 2], 6: [0], 9: [0], 10: [0, 3], 11: [3], 19: [3], 20: [0, 3], 30: [0, 3],
                31: [0, 3], 40: [0, 3], 41: [3], 399: [3], 400: [3]}
        for day, legs in told.items():
            with self.subTest(day=day):
                self.assertEqual(last(LAND, open_legs(day)), [len(legs)] + legs)

    def test_none(self):
        self.assertEqual(ask(open_legs(0), open_legs(400)), [[0], [0]])
        self.assertEqual(ask(text("P A\nP B\nB A B 7-7:1"), open_legs(6), open_legs(7), open_legs(8))[1:],
                         [[0], [2, 0, 1], [0]])

    def test_it_does_not_hang_on_stays(self):
        self.assertEqual(last(text("P A\nP B\nB A B 7-7:1\nN A 0-400\nN B 0-400"), open_legs(7)), [2, 0, 1])

    def test_names_that_are_no_places(self):
        self.assertEqual(last(text("P A\nL A B 0-400:1\nB B A 0-400:1\nL B C 0-400:1"), open_legs(0)), [0])

    def test_as_many_as_can_be(self):
        land = text(rows("P A", "P B", *["B A B 400-400:1"] * 38))
        self.assertEqual(ask(land, open_legs(400), open_legs(399))[1:], [[76] + list(range(76)), [0]])

    def test_behind_changes(self):
        self.assertEqual(ask(LAND, open_legs(5), cut(2), open_legs(5), UNDO, open_legs(5), put(0, "P X"), open_legs(5),
                             UNDO, REDO, cut(0), open_legs(5))[1::2],
                         [[3, 0, 1, 2], [2, 0, 1], [3, 0, 1, 2], [6, 0, 1, 2, 3, 4, 5], [9], [3, 0, 1, 2]])


class TestStay(unittest.TestCase):
    def test_the_edges_of_a_stretch(self):
        land = text("P A\nP B\nN B 10-20\nN A 0-0\nN A 400-400")
        self.assertEqual(ask(land, *[stay(1, d) for d in (0, 9, 10, 11, 19, 20, 21, 400)])[1:],
                         [[1], [1], [0], [0], [0], [0], [1], [1]])
        self.assertEqual(ask(land, *[stay(0, d) for d in (0, 1, 10, 399, 400)])[1:], [[0], [1], [1], [1], [0]])

    def test_several_lines_of_one_name(self):
        land = text("N A 3-5\nP A\nN A 5-6\nN A 9-9\nN A 4-4\nP A")
        self.assertEqual(ask(land, *[stay(0, d) for d in range(12)])[1:],
                         [[1], [1], [1], [0], [0], [0], [0], [1], [1], [0], [1], [1]])

    def test_names_alike_are_others(self):
        self.assertEqual(ask(text("P A\nP AA\nP A1\nN AA 0-400"), stay(0, 5), stay(1, 5), stay(2, 5))[1:],
                         [[1], [0], [1]])

    def test_a_name_that_is_no_place(self):
        self.assertEqual(ask(text("P A\nN B 0-400"), stay(0, 7), put(0, "P B"), stay(0, 7), stay(1, 7))[1:],
                         [[1], [3], [0], [1]])

    def test_legs_do_not_matter(self):
        self.assertEqual(ask(text("P A\nP B\nB A B 0-9:1"), stay(0, 5), stay(1, 50))[1:], [[1], [1]])

    def test_behind_changes(self):
        told = ask(text("P A\nN A 5-5"), stay(0, 5), cut(1), stay(0, 5), UNDO, stay(0, 5), REDO, stay(0, 5))
        self.assertEqual(told[1::2], [[0], [1], [0], [1]])


if __name__ == "__main__":
    unittest.main()
