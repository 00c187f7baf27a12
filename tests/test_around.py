"""Promise 15: around."""

import unittest

from tests.asking import REDO, UNDO, around, ask, last, put, rows, text

EVERY_DAY = text("P A\nP B\nB A B 0-400:2")


class TestAround(unittest.TestCase):
    def test_without_a_stay(self):
        self.assertEqual(ask(EVERY_DAY, around(0, 0, 1, 0, 400), around(1, 17, 0, 0, 400))[1:], [[4], [21]])

    def test_with_a_stay(self):
        self.assertEqual(ask(EVERY_DAY, around(0, 0, 1, 1, 400), around(0, 5, 1, 99, 400),
                             around(0, 5, 1, 100, 400))[1:],
                         [[5], [108], [109]])

    def test_the_last_day(self):
        self.assertEqual(ask(EVERY_DAY, around(0, 0, 1, 7, 11), around(0, 0, 1, 7, 10), around(0, 0, 1, 7, 0),
                             around(0, 50, 1, 0, 49), around(0, 396, 1, 0, 400), around(0, 397, 1, 0, 400),
                             around(0, 296, 1, 100, 400), around(0, 297, 1, 100, 400))[1:],
                         [[11], [-9], [-9], [-9], [400], [-9], [400], [-9]])

    def test_no_way_there_or_back(self):
        self.assertEqual(last(text("P A\nP B\nL A B 0-400:2"), around(0, 0, 1, 0, 400)), [-9])
        self.assertEqual(last(text("P A\nP B\nL B A 0-400:2"), around(0, 0, 1, 0, 400)), [-9])
        self.assertEqual(last(text("P A\nP B\nL A B 0-400:2\nL B A 0-1:1"), around(0, 0, 1, 0, 400)), [-9])

    def test_the_way_back_is_open_later(self):
        land = text("P A\nP B\nL A B 3-3:2\nL B A 20-20:1")
        self.assertEqual(ask(land, around(0, 0, 1, 0, 400), around(0, 0, 1, 15, 400), around(0, 0, 1, 16, 400),
                             around(0, 0, 1, 3, 21), around(0, 0, 1, 3, 20))[1:],
                         [[21], [21], [-9], [21], [-9]])

    def test_over_other_places(self):
        land = text(rows("P A", "P B", "P C", "L A C 0-9:1", "L C B 4-4:2", "L B C 8-9:1", "L C A 11-11:7"))
        self.assertEqual(ask(land, around(0, 0, 1, 0, 400), around(0, 0, 1, 3, 400), around(0, 0, 1, 4, 400))[1:],
                         [[18], [18], [-9]])


class TestStay(unittest.TestCase):
    def test_each_day_of_the_stay_counts(self):
        # One is at B on 10 and on no other day but by staying.
        for closed, told in ((9, 14), (10, -9), (11, -9), (12, -9), (13, 14), (14, 14)):
            land = text(rows("P A", "P B", "L A B 8-8:2", "L B A 0-400:1", f"N B {closed}-{closed}"))
            with self.subTest(closed=closed):
                self.assertEqual(last(land, around(0, 0, 1, 3, 400)), [told])

    def test_no_stay_is_needed_for_none(self):
        self.assertEqual(last(text("P A\nP B\nB A B 0-400:2\nN B 0-400"), around(0, 0, 1, 0, 400)), [4])
        self.assertEqual(last(text("P A\nP B\nB A B 0-400:2\nN B 0-400"), around(0, 0, 1, 1, 400)), [-9])
        self.assertEqual(last(text("P A\nP B\nB A B 0-400:2\nN A 0-400\nN B 0-400"), around(0, 0, 1, 0, 400)), [4])

    def test_a_later_day_serves(self):
        land = text("P A\nP B\nB A B 0-400:2\nN B 3-3")
        self.assertEqual(ask(land, around(0, 0, 1, 1, 400), around(0, 0, 1, 2, 400), around(0, 0, 1, 100, 400))[1:],
                         [[5], [8], [106]])
        # One can't wait at A: one goes to B, back, and to B once more.
        self.assertEqual(last(land, put(4, "N A 0-400"), around(0, 0, 1, 2, 400)), [10])
        self.assertEqual(last(text("P A\nP B\nL A B 0-0:2\nL B A 0-400:2\nN B 3-3"), around(0, 0, 1, 2, 400)), [-9])

    def test_a_later_day_serves_the_way_back(self):
        # Who is at B on 2 can stay there for a day, but not up to 10, when the leg back is open.
        land = text("P A\nP B\nL A B 0-9:2\nL B A 10-10:3\nN B 5-5")
        self.assertEqual(ask(land, around(0, 0, 1, 1, 400), around(0, 0, 1, 4, 400), around(0, 0, 1, 5, 400))[1:],
                         [[13], [13], [-9]])

    def test_one_may_come_later_by_oneself(self):
        # One comes to B on 2 and has to go on; it is by way of C that one is there again.
        land = text(rows("P A", "P B", "P C", "L A B 0-0:2", "L B C 2-2:4", "L C B 8-8:1", "L B A 12-12:1", "N B 2-2"))
        self.assertEqual(ask(land, around(0, 0, 1, 0, 400), around(0, 0, 1, 3, 400), around(0, 0, 1, 4, 400))[1:],
                         [[13], [13], [-9]])

    def test_the_day_behind_the_stay_is_at_most_the_last(self):
        land = text("P A\nP B\nB A B 0-400:1")
        self.assertEqual(ask(land, around(0, 350, 0, 50, 400), around(0, 351, 0, 50, 400), around(0, 300, 0, 100, 400),
                             around(0, 301, 0, 100, 400), around(0, 400, 0, 0, 400), around(0, 400, 0, 1, 400))[1:],
                         [[400], [-9], [400], [-9], [400], [-9]])


class TestThereAtOnce(unittest.TestCase):
    def test_x_is_y(self):
        self.assertEqual(ask(EVERY_DAY, around(0, 7, 0, 0, 400), around(0, 7, 0, 0, 7), around(0, 7, 0, 0, 6),
                             around(0, 7, 0, 5, 400), around(0, 7, 0, 5, 12), around(0, 7, 0, 5, 11),
                             around(1, 0, 1, 100, 400))[1:],
                         [[7], [7], [-9], [12], [12], [-9], [100]])

    def test_one_place_alone(self):
        self.assertEqual(ask(text("P A\nN A 9-9"), around(0, 0, 0, 9, 400), around(0, 0, 0, 10, 400),
                             around(0, 9, 0, 0, 400), around(0, 9, 0, 1, 400), around(0, 10, 0, 100, 400))[1:],
                         [[9], [-9], [9], [-9], [110]])

    def test_one_may_go_away_and_come_again(self):
        land = text("P A\nP B\nB A B 0-400:2\nN A 0-3")
        self.assertEqual(ask(land, around(0, 0, 0, 0, 400), around(0, 0, 0, 1, 400), around(0, 0, 0, 6, 400))[1:],
                         [[0], [5], [10]])


class TestBehindChanges(unittest.TestCase):
    def test_the_land_is_that_of_the_lines(self):
        asked = around(0, 0, 1, 2, 400)
        self.assertEqual(ask(EVERY_DAY, asked, put(3, "N B 3-3"), asked, UNDO, asked, REDO, asked, UNDO, UNDO,
                             asked)[1:],
                         [[6], [4], [8], [3], [6], [4], [8], [3], [0], [-1]])


if __name__ == "__main__":
    unittest.main()
