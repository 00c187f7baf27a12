"""Promise 0: text."""

import unittest

from tests.asking import FAR, LEGS, PLACES, PRINT, REDO, UNDO, ask, cut, last, places, printed, put, rows, text
from tests.samples import right_lines, wrong_lines

EVERY_KIND = rows("# a land", "", "P ICE", "P FORD2", "L ICE FORD2 0-90:3,300-400:4", "B FORD2 ICE 91-200:30",
                  "N ICE 80-120")


class TestLinesTaken(unittest.TestCase):
    def test_every_kind_of_line(self):
        self.assertEqual(last(text(EVERY_KIND)), [7])
        self.assertEqual(printed(text(EVERY_KIND)), EVERY_KIND)

    def test_empty_text_has_no_lines(self):
        self.assertEqual(last(text("")), [0])
        self.assertEqual(printed(text("P A"), text("")), "")

    def test_last_line_with_and_without_its_end(self):
        for written, count in (("P A\nP B", 2), ("P A\nP B\n", 2), ("P A\nP B\n\n", 3), ("P A", 1), ("P A\n", 1)):
            with self.subTest(written=written):
                self.assertEqual(last(text(written)), [count])
        self.assertEqual(printed(text("P A\nP B")), "P A\nP B\n")
        self.assertEqual(printed(text("P A\nP B\n")), "P A\nP B\n")

    def test_empty_lines_are_notes(self):
        self.assertEqual(last(text("\n")), [1])
        self.assertEqual(last(text("\n\n\n")), [3])
        self.assertEqual(printed(text("\n\nP A\n\n")), "\n\nP A\n\n")
        self.assertEqual(last(text("\n\nP A\n\n"), PLACES), [1, 1, 65])

    def test_each_right_line(self):
        for line in right_lines():
            with self.subTest(line=line):
                self.assertEqual(ask(text(rows(line)))[0], [1])
                self.assertEqual(printed(text(rows(line))), line + "\n")

    def test_it_takes_the_place_of_the_lines_before(self):
        self.assertEqual(printed(text("P A\nP B"), text("# else")), "# else\n")


class TestOutOfRange(unittest.TestCase):
    def test_length(self):
        filler = ("#" + "x" * 49 + "\n") * 40
        self.assertEqual(len(filler), 40 * 51)
        self.assertEqual(last(text(filler[51:] + "#" * 11)), [40])
        self.assertEqual(len(filler[51:] + "#" * 11), 2000)
        self.assertEqual(last(text(filler[51:] + "#" * 12)), [-1])
        self.assertEqual(last(text("x" * 2010)), [-1])

    def test_numbers_that_are_no_bytes(self):
        for number in (-1, 256, 257, -256, 320, 65 + 256, FAR, -FAR):
            for row in ([number], [80, 32, number], [number, 10], [35] * 20 + [number], [80, 32, 65, 10, number]):
                with self.subTest(row=row):
                    self.assertEqual(last(text(row)), [-1])

    def test_bytes_at_the_edges_are_bytes(self):
        self.assertEqual(last(text([0])), [-101])
        self.assertEqual(last(text([255])), [-101])


class TestWrongLines(unittest.TestCase):
    def test_each_wrong_line(self):
        for line in wrong_lines():
            with self.subTest(line=line):
                self.assertEqual(last(text(rows(line))), [-101])
                self.assertEqual(last(text(rows("P A", "", line, "P B"))), [-103])
                self.assertEqual(last(text(line)), [-101])

    def test_the_first_wrong_line_is_told(self):
        self.assertEqual(last(text(rows("P A", "P B", "P", "Q", "P C"))), [-103])
        self.assertEqual(last(text(rows(*["#"] * 39, "P"))), [-140])
        self.assertEqual(last(text("\n\nP")), [-103])


class TestTooMuch(unittest.TestCase):
    def test_lines(self):
        self.assertEqual(last(text("\n" * 40)), [40])
        self.assertEqual(last(text("\n" * 39 + "#")), [40])
        self.assertEqual(last(text("\n" * 40 + "#")), [-5])
        self.assertEqual(last(text("\n" * 41)), [-5])
        self.assertEqual(last(text("\n" * 2000)), [-5])

    def test_places(self):
        self.assertEqual(last(text(rows(*places(12)))), [12])
        self.assertEqual(last(text(rows(*places(13)))), [-5])

    def test_a_place_told_again_is_none_more(self):
        self.assertEqual(last(text(rows(*places(12), *places(12)))), [24])
        self.assertEqual(last(text(rows(*places(12), *places(13)))), [-5])

    def test_names_in_other_lines_are_no_places(self):
        others = [f"L B{i} C{i} 1-2:3" for i in range(14)] + [f"N D{i} 1-2" for i in range(14)]
        self.assertEqual(last(text(rows(*places(12), *others))), [40])


class TestOrderOfRefusals(unittest.TestCase):
    def test_out_of_range_comes_first(self):
        self.assertEqual(last(text([80, 10, 256])), [-1])
        self.assertEqual(last(text([10] * 50 + [80, 10, -1])), [-1])
        self.assertEqual(last(text([80] + [10] * 2000)), [-1])
        self.assertEqual(last(text([10] * 2001)), [-1])

    def test_wrong_lines_come_before_too_much(self):
        self.assertEqual(last(text("\n" * 41 + "P")), [-142])
        self.assertEqual(last(text("\n" * 1998 + "PP")), [-2099])
        self.assertEqual(last(text(rows(*places(13), "P"))), [-114])
        self.assertEqual(last(text(rows("P", *places(13)))), [-101])


class TestRefusalsChangeNothing(unittest.TestCase):
    REFUSED = ([256], "P", "P A\nP", "\n" * 41, rows(*places(13)), "#" * 2001)

    def test_lines_stay(self):
        for row in self.REFUSED:
            with self.subTest(row=row):
                self.assertLess(last(text(row))[0], 0)
                self.assertEqual(ask(text(EVERY_KIND), text(row), PRINT, PLACES, LEGS)[2:],
                                 ask(text(EVERY_KIND), PRINT, PLACES, LEGS)[1:])

    def test_what_can_be_undone_and_done_again_stays(self):
        for row in self.REFUSED:
            with self.subTest(row=row):
                self.assertEqual(ask(text("#1"), put(1, "#2"), cut(0), UNDO, text(row), REDO, PRINT, REDO)[5:],
                                 [[1], [3, 35, 50, 10], [-4]])
                self.assertEqual(ask(text("#1"), put(1, "#2"), text(row), UNDO, text(row), UNDO, text(row), UNDO)[3::2],
                                 [[1], [0], [-4]])

    def test_nothing_can_be_undone_behind_refusals_alone(self):
        for row in self.REFUSED:
            self.assertEqual(ask(text(row), UNDO, PRINT)[1:], [[-4], [0]])


if __name__ == "__main__":
    unittest.main()
