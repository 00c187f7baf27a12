"""Promises 11 and 12: latest and safe."""

import unittest

from tests.asking import REDO, UNDO, ask, cut, last, latest, put, rows, safe, text

LAND = text(rows("P A", "P B", "P C", "L A B 10-20:3", "L B C 15-15:2,14-18:5", "N A 4-4"))


class TestLatest(unittest.TestCase):
    def test_one_leg(self):
        self.assertEqual(ask(LAND, latest(0, 1, 400), latest(0, 1, 23), latest(0, 1, 22), latest(0, 1, 14),
                             latest(0, 1, 13), latest(0, 1, 12))[1:],
                         [[20], [20], [19], [11], [10], [-9]])

    def test_two_legs(self):
        self.assertEqual(ask(LAND, latest(0, 2, 400), latest(0, 2, 23), latest(0, 2, 22), latest(0, 2, 20),
                             latest(0, 2, 18), latest(0, 2, 17), latest(0, 2, 16))[1:],
                         [[15], [15], [14], [12], [12], [12], [-9]])

    def test_on_the_day_itself(self):
        self.assertEqual(ask(LAND, latest(0, 0, 0), latest(0, 0, 4), latest(1, 1, 17), latest(2, 2, 400))[1:],
                         [[0], [4], [17], [400]])

    def test_no_way(self):
        self.assertEqual(ask(LAND, latest(1, 0, 400), latest(2, 1, 400), latest(0, 1, 0))[1:], [[-9], [-9], [-9]])

    def test_first_and_last_day(self):
        land = text("P A\nP B\nB A B 0-400:1")
        self.assertEqual(ask(land, latest(0, 1, 0), latest(0, 1, 1), latest(0, 1, 400))[1:], [[-9], [0], [399]])
        self.assertEqual(ask(text("P A\nP B\nB A B 400-400:1"), latest(0, 1, 400), latest(0, 0, 400))[1:],
                         [[-9], [400]])
        self.assertEqual(last(text("P A\nP B\nL A B 370-400:30"), latest(0, 1, 400)), [370])

    def test_who_starts_later_may_be_there_earlier(self):
        land = text("P A\nP B\nL A B 0-3:20,5-5:2")
        self.assertEqual(ask(land, latest(0, 1, 7), latest(0, 1, 6), latest(0, 1, 100))[1:], [[5], [-9], [5]])

    def test_the_first_window_that_has_the_day(self):
        self.assertEqual(last(text("P A\nP B\nL A B 0-10:9,5-8:1"), latest(0, 1, 12)), [3])
        self.assertEqual(last(text("P A\nP B\nL A B 5-8:1,0-10:9"), latest(0, 1, 12)), [8])

    def test_through_a_place_without_a_stay(self):
        land = rows("P A", "P B", "P C", "L A B 0-400:1", "L B C 50-60:4", "N B 0-400")
        self.assertEqual(ask(text(land), latest(0, 2, 400), latest(0, 2, 55), latest(1, 2, 400))[1:],
                         [[59], [50], [60]])
        self.assertEqual(last(text(land), put(0, "N C 0-400"), latest(0, 2, 400)), [59])


class TestSafe(unittest.TestCase):
    def test_one_leg(self):
        self.assertEqual(ask(LAND, safe(0, 1, 400), safe(0, 1, 22), safe(0, 1, 13), safe(0, 1, 12))[1:],
                         [[1, 5, 20], [1, 5, 19], [1, 5, 10], [0]])

    def test_two_legs(self):
        self.assertEqual(ask(LAND, safe(0, 2, 400), safe(0, 2, 17), safe(0, 2, 16), safe(1, 2, 18), safe(1, 2, 21))[1:],
                         [[1, 5, 15], [1, 5, 12], [0], [1, 0, 15], [1, 0, 16]])

    def test_several_stretches(self):
        land = rows("P A", "P B", "L A B 3-3:1,9-10:1,30-30:1", "N A 0-1", "N A 7-8", "N A 13-20")
        self.assertEqual(ask(text(land), safe(0, 1, 400), safe(0, 1, 10), safe(0, 1, 30))[1:],
                         [[3, 2, 3, 9, 10, 21, 30], [2, 2, 3, 9, 9], [2, 2, 3, 9, 10]])
        self.assertEqual(last(text(land), cut(4), safe(0, 1, 400)), [2, 2, 10, 21, 30])

    def test_as_few_stretches_as_can_be(self):
        land = rows("P A", "P B", "L A B 3-4:1", "L A B 5-6:2,8-9:1", "N A 0-400")
        self.assertEqual(last(text(land), safe(0, 1, 400)), [2, 3, 6, 8, 9])

    def test_x_is_y(self):
        self.assertEqual(ask(LAND, safe(0, 0, 400), safe(0, 0, 0), safe(0, 0, 4), safe(1, 1, 17))[1:],
                         [[1, 0, 400], [1, 0, 0], [1, 0, 4], [1, 0, 17]])

    def test_first_and_last_day(self):
        land = text("P A\nP B\nB A B 0-400:1")
        self.assertEqual(ask(land, safe(0, 1, 0), safe(0, 1, 1), safe(0, 1, 400), safe(1, 0, 399))[1:],
                         [[0], [1, 0, 0], [1, 0, 399], [1, 0, 398]])

    def test_none(self):
        self.assertEqual(ask(LAND, safe(1, 0, 400), safe(2, 1, 400))[1:], [[0], [0]])

    def test_a_name_that_is_no_place(self):
        land = text("P A\nP B\nL A X 0-9:1\nL X B 0-9:1\nN X 0-400")
        self.assertEqual(ask(land, safe(0, 1, 400), put(5, "P X"), safe(0, 1, 400), latest(0, 1, 5))[1:],
                         [[0], [6], [1, 0, 8], [3]])


class TestBehindChanges(unittest.TestCase):
    def test_the_land_is_that_of_the_lines(self):
        asked = [latest(0, 1, 300), safe(0, 1, 300)]
        told = ask(text("P A\nP B"), *asked, put(2, "L A B 7-7:2"), *asked, put(0, "N A 3-3"), *asked, UNDO, *asked,
                   UNDO, *asked, REDO, *asked)
        closed, free, short = [[-9], [0]], [[7], [1, 0, 7]], [[7], [1, 4, 7]]
        self.assertEqual([told[i:i + 2] for i in range(1, 18, 3)], [closed, free, short, free, closed, free])


if __name__ == "__main__":
    unittest.main()
