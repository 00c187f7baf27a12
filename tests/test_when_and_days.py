"""Promises 9 and 10: when and days."""

import unittest

from tests.asking import REDO, UNDO, ask, cut, days, last, put, rows, text, when

# Legs: 0 from A to B, 1 from B to C, 2 from C to B.
LAND = text(rows("P A", "P B", "P C", "L A B 10-20:3", "B B C 15-15:2,14-18:5", "N B 16-17"))


class TestWhen(unittest.TestCase):
    def test_one_leg(self):
        self.assertEqual(ask(LAND, when(0, 0, 1), when(0, 10, 1), when(0, 12, 1), when(0, 20, 1), when(0, 21, 1))[1:],
                         [[13], [13], [15], [23], [-9]])

    def test_two_legs(self):
        # At B on 13, from there on 15: there on 17. Who is at B on 16 has to start at once.
        self.assertEqual(ask(LAND, when(0, 0, 2), when(0, 12, 2), when(0, 13, 2), when(0, 15, 2), when(0, 16, 2))[1:],
                         [[17], [17], [21], [23], [-9]])

    def test_at_once(self):
        self.assertEqual(ask(LAND, when(0, 0, 0), when(1, 16, 1), when(2, 400, 2))[1:], [[0], [16], [400]])

    def test_against_a_leg(self):
        self.assertEqual(ask(LAND, when(1, 0, 0), when(2, 0, 0), when(2, 0, 1))[1:], [[-9], [-9], [17]])

    def test_the_first_window_that_has_the_day(self):
        self.assertEqual(last(text("P A\nP B\nL A B 0-10:9,5-5:1"), when(0, 5, 1)), [14])
        self.assertEqual(last(text("P A\nP B\nL A B 5-5:1,0-10:9"), when(0, 5, 1)), [6])
        self.assertEqual(last(text("P A\nP B\nL A B 5-5:1,0-10:9"), when(0, 0, 1)), [6])
        self.assertEqual(last(text("P A\nP B\nL A B 5-5:1,0-10:9"), when(0, 6, 1)), [15])
        self.assertEqual(last(text("P A\nP B\nL A B 3-4:8,5-5:7,0-10:3,4-6:1"), when(0, 4, 1)), [9])

    def test_who_starts_later_may_be_there_earlier(self):
        self.assertEqual(last(text("P A\nP B\nL A B 0-0:30,1-1:20,7-7:2"), when(0, 0, 1)), [9])
        self.assertEqual(last(text("P A\nP B\nL A B 0-0:30,1-1:20,7-7:2\nN A 4-4"), when(0, 0, 1)), [21])
        self.assertEqual(last(text("P A\nP B\nL A B 0-0:30,1-1:20,7-7:2\nN A 0-0"), when(0, 0, 1)), [30])

    def test_the_last_days(self):
        land = text("P A\nP B\nL A B 390-400:5")
        self.assertEqual(ask(land, when(0, 0, 1), when(0, 395, 1), when(0, 396, 1), when(0, 400, 1))[1:],
                         [[395], [400], [-9], [-9]])

    def test_open_on_the_last_day_alone(self):
        self.assertEqual(ask(text("P A\nP B\nB A B 400-400:1"), when(0, 0, 1), when(1, 400, 0))[1:], [[-9], [-9]])

    def test_from_the_first_day_on(self):
        self.assertEqual(last(text("P A\nP B\nL A B 0-0:1\nN A 0-400\nN B 0-400"), when(0, 0, 1)), [1])

    def test_no_stay_on_the_day_of_arrival(self):
        land = rows("P A", "P B", "P C", "L A B 0-400:1", "L B C 0-400:1", "N B 0-400")
        self.assertEqual(ask(text(land), when(0, 0, 1), when(0, 0, 2))[1:], [[1], [2]])
        late = rows("P A", "P B", "P C", "L A B 0-400:1", "L B C 5-400:1", "N B 0-400", "N A 0-400")
        self.assertEqual(ask(text(late), when(0, 0, 1), when(0, 0, 2), when(0, 4, 2))[1:], [[1], [-9], [6]])

    def test_several_lines_without_a_stay(self):
        land = rows("P A", "P B", "L A B 9-9:1", "N A 4-4", "N A 6-7", "N A 3-4")
        self.assertEqual(ask(text(land), *[when(0, t, 1) for t in range(10)])[1:],
                         [[-9]] * 8 + [[10], [10]])

    def test_lines_of_a_name_that_is_no_place(self):
        land = [text("P A\nP B\nL A X 0-400:1\nL X B 0-400:1\nN X 0-400\nB A B 50-60:7")]
        self.assertEqual(ask(*land, when(0, 0, 1), put(0, "P X"), when(1, 0, 2), when(1, 0, 0), when(0, 0, 0))[1::2],
                         [[57], [2], [0]])

    def test_around_in_circles(self):
        land = rows("P A", "P B", "P C", "L A B 0-400:1", "L B A 0-400:1", "N A 0-400", "N B 0-400", "L B C 7-7:1")
        self.assertEqual(ask(text(land), when(0, 0, 2), when(0, 1, 2))[1:], [[8], [-9]])


class TestDays(unittest.TestCase):
    def test_one_stretch(self):
        self.assertEqual(ask(LAND, days(0, 0, 1), days(0, 20, 1), days(0, 21, 1), days(0, 0, 2))[1:],
                         [[1, 13, 400], [1, 23, 400], [0], [1, 17, 400]])

    def test_several_stretches(self):
        land = rows("P A", "P B", "L A B 0-2:1,10-12:1,300-300:30", "N B 0-400")
        self.assertEqual(last(text(land), days(0, 0, 1)), [3, 1, 3, 11, 13, 330, 330])
        self.assertEqual(last(text(land), days(0, 2, 1)), [3, 3, 3, 11, 13, 330, 330])
        self.assertEqual(last(text(land), days(0, 12, 1)), [2, 13, 13, 330, 330])

    def test_as_few_stretches_as_can_be(self):
        land = rows("P A", "P B", "L A B 0-2:1", "L A B 3-5:1,8-8:1", "N B 0-400")
        self.assertEqual(last(text(land), days(0, 0, 1)), [2, 1, 6, 9, 9])
        self.assertEqual(last(text(land), put(5, "L A B 5-6:2"), days(0, 0, 1)), [1, 1, 9])

    def test_from_stays_and_from_legs(self):
        land = rows("P A", "P B", "L A B 0-0:1,7-7:4", "N B 5-6")
        self.assertEqual(last(text(land), days(0, 0, 1)), [2, 1, 5, 11, 400])

    def test_x_is_y(self):
        land = rows("P A", "P B", "N A 5-5", "L A B 2-2:1", "L B A 7-7:1", "N A 9-9")
        self.assertEqual(ask(text(land), days(0, 0, 0), days(0, 3, 0), days(0, 5, 0), days(0, 6, 0), days(0, 10, 0),
                             days(0, 400, 0), days(1, 0, 1))[1:],
                         [[2, 0, 5, 8, 9], [1, 3, 5], [1, 5, 5], [1, 6, 9], [1, 10, 400], [1, 400, 400], [1, 0, 400]])

    def test_the_last_day(self):
        self.assertEqual(last(text("P A\nP B\nL A B 399-400:1"), days(0, 0, 1)), [1, 400, 400])
        self.assertEqual(last(text("P A\nP B\nL A B 400-400:1"), days(0, 0, 1)), [0])
        self.assertEqual(last(text("P A\nP B\nL A B 371-371:30"), days(0, 0, 1)), [0])
        self.assertEqual(last(text("P A\nP B\nL A B 370-370:30"), days(0, 0, 1)), [1, 400, 400])

    def test_no_stay_at_all(self):
        self.assertEqual(last(text("P A\nP B\nL A B 0-400:1\nN A 0-400\nN B 0-400"), days(0, 0, 1)), [1, 1, 1])
        self.assertEqual(last(text("P A\nN A 0-400"), days(0, 17, 0)), [1, 17, 17])

    def test_as_many_stretches_as_can_be(self):
        land = rows("P A", "P B", "B A B 0-400:1", "N A 0-400", "N B 0-400")
        even = [201] + [day for i in range(0, 401, 2) for day in (i, i)]
        odd = [200] + [day for i in range(1, 401, 2) for day in (i, i)]
        self.assertEqual(ask(text(land), days(0, 0, 0), days(0, 0, 1), days(0, 1, 0))[1:], [even, odd, odd])


class TestBehindChanges(unittest.TestCase):
    def test_the_land_is_that_of_the_lines(self):
        asked = [when(0, 0, 1), days(0, 0, 1)]
        told = ask(text("P A\nP B"), *asked, put(2, "L A B 7-7:2"), *asked, put(0, "N B 9-9"), *asked, cut(3), *asked,
                   UNDO, *asked, UNDO, *asked, UNDO, *asked, REDO, *asked, UNDO, UNDO, when(0, 0, 0), REDO, *asked)
        closed, free, short = [[-9], [0]], [[9], [1, 9, 400]], [[9], [1, 9, 9]]
        self.assertEqual([told[i:i + 2] for i in range(1, 23, 3)],
                         [closed, free, short, closed, short, free, closed, free])
        self.assertEqual(told[26:], [[-1], [2]] + closed)

    def test_places_get_other_numbers(self):
        self.assertEqual(ask(text("P A\nP B\nL A B 7-7:2"), when(0, 0, 1), put(0, "P B"), when(0, 0, 1), when(1, 0, 0)),
                         [[3], [9], [4], [-9], [9]])


if __name__ == "__main__":
    unittest.main()
