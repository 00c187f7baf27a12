"""The calls print, places and legs, and promise 8: leg."""

import unittest

from tests.asking import FAR, LEGS, PLACES, PRINT, REDO, UNDO, ask, cut, last, leg, places, put, rows, text

LAND = rows("P A", "P BC", "# between", "L A BC 0-10:3,20-30:4", "B BC A 5-5:1", "P A", "P D9", "L D9 A 0-400:30")


def name(written):
    return [len(written)] + list(written.encode())


class TestBeforeTheFirstText(unittest.TestCase):
    def test_nothing_is_there(self):
        self.assertEqual(ask(PRINT, PLACES, LEGS, leg(0), leg(100)), [[0], [0], [0], [-4], [-4]])


class TestPrint(unittest.TestCase):
    def test_each_line_with_its_end(self):
        self.assertEqual(last(text("P A\n\n# x"), PRINT), [9, 80, 32, 65, 10, 10, 35, 32, 120, 10])

    def test_the_count_stands_ahead(self):
        self.assertEqual(last(text(LAND), PRINT), [len(LAND)] + list(LAND.encode()))

    def test_behind_changes(self):
        self.assertEqual(ask(text("#a"), PRINT, put(0, ""), PRINT, cut(1), PRINT, UNDO, PRINT, REDO, PRINT)[1::2],
                         [[3, 35, 97, 10], [4, 10, 35, 97, 10], [1, 10], [4, 10, 35, 97, 10], [1, 10]])

    def test_a_full_text(self):
        line = "L ABCDEF ABCDEG " + ",".join(["400-400:30"] * 6)
        full = rows(*[line] * 24)
        self.assertEqual(last(text(full), PRINT), [len(full)] + list(full.encode()))


class TestPlaces(unittest.TestCase):
    def test_in_their_order(self):
        self.assertEqual(last(text("P Z\nP A1\nP M"), PLACES), [3] + name("Z") + name("A1") + name("M"))

    def test_a_place_told_twice_comes_once(self):
        self.assertEqual(last(text("P B\nP A\nP B\nP A\nP C"), PLACES), [3] + name("B") + name("A") + name("C"))

    def test_names_alike_at_their_beginning_are_others(self):
        self.assertEqual(last(text("P A\nP AA\nP A1"), PLACES), [3] + name("A") + name("AA") + name("A1"))

    def test_other_lines_tell_none(self):
        self.assertEqual(last(text("L A B 1-2:3\nB C D 1-2:3\nN E 1-2\n#P F\nP G"), PLACES), [1] + name("G"))

    def test_twelve_of_six_bytes(self):
        names = [f"NAME{chr(65 + i)}{i % 10}" for i in range(12)]
        told = [12]
        for each in names:
            told += name(each)
        self.assertEqual(last(text(rows(*["P " + each for each in names])), PLACES), told)

    def test_behind_changes(self):
        told = ask(text("P B\nP A\nP B"), cut(0), PLACES, put(0, "P C"), PLACES, UNDO, UNDO, PLACES)
        self.assertEqual(told[2], [2] + name("A") + name("B"))
        self.assertEqual(told[4], [3] + name("C") + name("A") + name("B"))
        self.assertEqual(told[7], [2] + name("B") + name("A"))


class TestLegs(unittest.TestCase):
    def test_in_their_order(self):
        self.assertEqual(last(text(LAND), LEGS), [4, 0, 1, 2, 1, 0, 1, 0, 1, 1, 2, 0, 1])

    def test_forth_and_back(self):
        self.assertEqual(last(text("P A\nP B\nB B A 1-2:3,4-5:6\nB A B 1-2:3"), LEGS),
                         [4, 1, 0, 2, 0, 1, 2, 0, 1, 1, 1, 0, 1])

    def test_the_same_leg_twice_are_two(self):
        self.assertEqual(last(text("P A\nP B\nL A B 1-2:3\nL A B 1-2:3"), LEGS), [2, 0, 1, 1, 0, 1, 1])

    def test_names_that_are_no_places(self):
        lines = ["P A", "P B", "L A C 1-2:3", "L C A 1-2:3", "B A C 1-2:3", "B C B 1-2:3", "B C D 1-2:3", "N C 1-2",
                 "L B A 1-2:3"]
        self.assertEqual(last(text(rows(*lines)), LEGS), [1, 1, 0, 1])
        self.assertEqual(last(text(rows(*lines)), leg(1)), [-4])
        self.assertEqual(last(text(rows(*lines, "P C")), LEGS),
                         [7, 0, 2, 1, 2, 0, 1, 0, 2, 1, 2, 0, 1, 2, 1, 1, 1, 2, 1, 1, 0, 1])

    def test_places_that_a_later_line_tells(self):
        self.assertEqual(last(text("L A B 1-2:3\nP B\nP A"), LEGS), [1, 1, 0, 1])
        told = ask(text("L A B 1-2:3\nP A"), LEGS, put(2, "P B"), LEGS, cut(1), LEGS, UNDO, LEGS)
        self.assertEqual(told[1::2], [[0], [1, 0, 1, 1], [0], [1, 0, 1, 1]])

    def test_numbers_follow_the_places(self):
        self.assertEqual(last(text("P A\nP B\nL A B 1-2:3"), put(0, "P B"), LEGS), [1, 1, 0, 1])

    def test_as_many_as_can_be(self):
        lines = ["P A", "P B"] + ["B A B 1-2:3"] * 38
        self.assertEqual(last(text(rows(*lines)), LEGS), [76] + [0, 1, 1, 1, 0, 1] * 38)
        self.assertEqual(last(text(rows(*lines)), leg(75)), [1, 0, 1, 1, 2, 3])
        self.assertEqual(last(text(rows(*lines)), leg(76)), [-4])


class TestLeg(unittest.TestCase):
    def test_windows_in_their_order(self):
        self.assertEqual(ask(text(LAND), leg(0), leg(1), leg(2), leg(3), leg(4))[1:],
                         [[0, 1, 2, 0, 10, 3, 20, 30, 4], [1, 0, 1, 5, 5, 1], [0, 1, 1, 5, 5, 1], [2, 0, 1, 0, 400, 30],
                          [-4]])
        self.assertEqual(last(text("P A\nP B\nL A B 300-400:9,0-350:10,0-350:10"), leg(0)),
                         [0, 1, 3, 300, 400, 9, 0, 350, 10, 0, 350, 10])

    def test_six_windows(self):
        windows = "0-9:1,10-19:2,20-29:3,30-39:4,40-49:5,50-59:6"
        self.assertEqual(last(text(f"P A\nP B\nB A B {windows}"), leg(1)),
                         [1, 0, 6, 0, 9, 1, 10, 19, 2, 20, 29, 3, 30, 39, 4, 40, 49, 5, 50, 59, 6])

    def test_out_of_range(self):
        for i in (-1, -2, -4, 101, 102, FAR, -FAR):
            with self.subTest(i=i):
                self.assertEqual(last(text(LAND), leg(i)), [-1])
                self.assertEqual(last(leg(i)), [-1])

    def test_none_there(self):
        for i in (4, 5, 99, 100):
            with self.subTest(i=i):
                self.assertEqual(last(text(LAND), leg(i)), [-4])

    def test_behind_changes(self):
        told = ask(text(LAND), cut(3), leg(0), UNDO, leg(0), text(rows(*places(3))), leg(0))
        self.assertEqual(told[2::2], [[1, 0, 1, 5, 5, 1], [0, 1, 2, 0, 10, 3, 20, 30, 4], [-4]])


if __name__ == "__main__":
    unittest.main()
