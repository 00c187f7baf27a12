"""Promise 13: way."""

import unittest

from tests.asking import UNDO, ask, check, last, put, rows, text, way

PLACES_ABCD = ["P A", "P B", "P C", "P D"]


def way_of(*legs, x=0, t=0, y=1):
    """The way from A to B, in a land with the places A, B, C, D and these lines."""
    return last(text(rows(*PLACES_ABCD, *legs)), way(x, t, y))


class TestWay(unittest.TestCase):
    def test_one_start(self):
        self.assertEqual(way_of("L A B 10-20:3"), [13, 1, 10, 0])
        self.assertEqual(way_of("L A B 10-20:3", t=15), [18, 1, 15, 0])

    def test_several_starts(self):
        self.assertEqual(way_of("L A C 10-20:3", "L C B 15-15:2,14-18:5"), [17, 2, 10, 0, 15, 1])
        self.assertEqual(way_of("L D B 9-9:1", "L C D 5-6:1", "L A C 0-9:2"), [10, 3, 0, 2, 5, 1, 9, 0])

    def test_x_is_y(self):
        self.assertEqual(way_of("B A B 0-400:1", y=0), [0, 0])
        self.assertEqual(way_of("N A 0-400", t=400, y=0), [400, 0])
        self.assertEqual(way_of(t=17, x=3, y=3), [17, 0])

    def test_no_day(self):
        self.assertEqual(way_of(), [-9])
        self.assertEqual(way_of("L B A 0-400:1"), [-9])
        self.assertEqual(way_of("L A B 0-9:1", t=10), [-9])
        self.assertEqual(way_of("L A B 400-400:1"), [-9])
        self.assertEqual(way_of("L A B 9-9:1", "N A 4-4"), [-9])
        self.assertEqual(way_of("L A X 0-400:1", "L X B 0-400:1"), [-9])

    def test_the_last_day(self):
        self.assertEqual(way_of("L A B 399-400:1"), [400, 1, 399, 0])
        self.assertEqual(way_of("L A B 370-371:30"), [400, 1, 370, 0])
        self.assertEqual(way_of("L A B 400-400:1", "L A C 300-300:30", "L C B 371-371:29"), [400, 2, 300, 1, 371, 2])
        self.assertEqual(way_of("L A C 390-395:10,396-399:30", "L A B 397-399:1"), [398, 1, 397, 1])

    def test_the_first_window_that_has_the_day(self):
        self.assertEqual(way_of("L A B 3-9:9,5-5:1"), [12, 1, 3, 0])
        self.assertEqual(way_of("L A B 5-5:1,3-9:9"), [6, 1, 5, 0])

    def test_it_waits_where_one_can_stay(self):
        legs = ["L A C 0-9:1", "L C B 6-6:1"]
        self.assertEqual(way_of(*legs), [7, 2, 0, 0, 6, 1])
        self.assertEqual(way_of(*legs, "N C 3-3"), [7, 2, 3, 0, 6, 1])
        self.assertEqual(way_of(*legs, "N C 0-400"), [7, 2, 5, 0, 6, 1])
        self.assertEqual(way_of(*legs, "N C 0-400", "N A 3-3"), [-9])
        self.assertEqual(way_of(*legs, "N C 3-3", "N C 5-5"), [7, 2, 5, 0, 6, 1])

    def test_no_stay_on_the_day_of_arrival(self):
        self.assertEqual(way_of("L A C 0-9:1", "L C B 1-9:1", "N B 0-400", "N C 0-400"), [2, 2, 0, 0, 1, 1])


class TestTies(unittest.TestCase):
    def test_the_first_day_goes_before_few_starts(self):
        self.assertEqual(way_of("L A B 0-400:9", "L A C 0-0:2", "L C D 2-2:2", "L D B 4-4:2"), [6, 3, 0, 1, 2, 2, 4, 3])

    def test_fewest_starts(self):
        self.assertEqual(way_of("L A C 0-0:2", "L C B 2-2:2", "L A B 0-0:4"), [4, 1, 0, 2])
        self.assertEqual(way_of("L A C 0-0:1", "L C D 1-1:1", "L D B 2-2:2", "L C B 1-1:3"), [4, 2, 0, 0, 1, 3])

    def test_fewest_starts_go_before_the_earliest_day(self):
        self.assertEqual(way_of("L A C 0-0:2", "L C B 2-2:2", "L A B 3-3:1"), [4, 1, 3, 2])

    def test_earliest_day_of_the_first_start(self):
        self.assertEqual(way_of("L A B 2-2:3,0-0:5"), [5, 1, 0, 0])

    def test_earliest_day_goes_before_the_least_leg(self):
        self.assertEqual(way_of("L A B 2-2:3", "L A B 1-1:4", "L A B 0-0:5"), [5, 1, 0, 2])

    def test_least_leg(self):
        self.assertEqual(way_of("L B A 0-9:1", "L A B 4-4:2", "L A B 4-4:2"), [6, 1, 4, 1])
        self.assertEqual(way_of("L A C 4-4:2", "L A B 4-4:3", "L A B 4-4:2", "B B A 4-4:2"), [6, 1, 4, 2])

    def test_the_first_start_goes_before_the_second(self):
        legs = ["L A C 0-0:3", "L A D 0-0:1", "L C B 5-5:1", "L D B 1-1:5"]
        self.assertEqual(way_of(*legs), [6, 2, 0, 0, 5, 2])
        self.assertEqual(way_of(*legs[1::-1], *legs[2:]), [6, 2, 0, 0, 1, 3])

    def test_earliest_day_of_the_second_start(self):
        self.assertEqual(way_of("L A C 0-9:1", "L C B 7-7:3,4-4:6,6-6:4"), [10, 2, 0, 0, 4, 1])
        self.assertEqual(way_of("L A C 0-9:1", "L C B 7-7:3", "L C B 4-4:6"), [10, 2, 0, 0, 4, 2])

    def test_least_leg_of_the_second_start(self):
        self.assertEqual(way_of("L A C 0-9:1", "L C B 4-4:6", "L C B 4-4:6"), [10, 2, 0, 0, 4, 1])

    def test_least_leg_and_earliest_day_of_a_third_start(self):
        legs = ["L C D 2-9:1", "L C D 2-9:1", "L A C 1-1:1", "L D B 8-8:2", "L D B 6-6:4", "L D B 6-6:4"]
        self.assertEqual(way_of(*legs), [10, 3, 1, 2, 2, 0, 6, 4])
        self.assertEqual(way_of(*legs, "N D 5-5"), [10, 3, 1, 2, 5, 0, 6, 4])
        self.assertEqual(way_of(*legs, "N C 4-4", "N D 5-6"), [-9])

    def test_starts_that_lead_on_but_too_late_are_passed_over(self):
        self.assertEqual(way_of("L A C 0-0:7,1-3:1", "L C B 5-5:1,9-9:9"), [6, 2, 1, 0, 5, 1])

    def test_starts_that_lead_on_by_more_starts_are_passed_over(self):
        # By C one is there on the same day, with one start more.
        self.assertEqual(way_of("L A C 0-0:1", "L C D 1-1:1", "L D B 2-5:1", "L A D 1-1:1", "N B 0-400"),
                         [3, 2, 1, 3, 2, 2])

    def test_one_does_not_come_by_the_goal_before(self):
        self.assertEqual(way_of("L A B 0-0:3,1-1:2", "L A B 2-2:9"), [3, 1, 0, 0])


class TestWayIsAnItinerary(unittest.TestCase):
    def test_check_says_so(self):
        land = text(rows("P A", "P B", "P C", "P D", "B A C 3-60:4,2-90:6", "B C D 11-14:3,40-48:8", "L D B 52-53:2",
                         "N C 8-9", "N D 18-30", "L D B 70-70:1", "N A 50-55"))
        for t in (0, 2, 7, 30, 41, 60):
            told = last(land, way(0, t, 1))
            if told != [-9]:
                self.assertEqual(last(land, check(0, t, told[2:])), [1, 1, told[0]])
        self.assertEqual(last(land, way(0, 0, 1)), [54, 3, 6, 0, 40, 2, 52, 4])

    def test_many_starts(self):
        # Nobody can stay anywhere, so it is a start a day from 0 on.
        land = text(rows("P A", "P B", "P C", "B A C 0-400:1", "N A 0-400", "N C 0-400", "L A B 398-398:1"))
        starts = [number for day in range(398) for number in (day, day % 2)]
        self.assertEqual(last(land, way(0, 0, 1)), [399, 399] + starts + [398, 2])


class TestBehindChanges(unittest.TestCase):
    def test_the_land_is_that_of_the_lines(self):
        self.assertEqual(ask(text("P A\nP B\nL A B 5-5:2"), way(0, 0, 1), put(0, "B B A 5-5:2"), way(0, 0, 1), UNDO,
                             way(0, 0, 1), put(0, "L A B 1-1:1"), way(0, 0, 1))[1::2],
                         [[7, 1, 5, 0], [7, 1, 5, 1], [7, 1, 5, 0], [2, 1, 1, 0]])


if __name__ == "__main__":
    unittest.main()
