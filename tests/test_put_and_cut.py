"""Promises 1 and 2: put and cut."""

import unittest

from tests.asking import FAR, PRINT, REDO, UNDO, ask, cut, last, places, printed, put, rows, text
from tests.samples import right_lines, wrong_lines

THREE = text("#0\n#1\n#2")
FORTY = text(rows(*[f"#{i}" for i in range(40)]))
TWELVE = text(rows(*places(12)))


class TestPut(unittest.TestCase):
    def test_where_it_is_put(self):
        for k, lines in ((0, "#new #0 #1 #2"), (1, "#0 #new #1 #2"), (2, "#0 #1 #new #2"), (3, "#0 #1 #2 #new")):
            with self.subTest(k=k):
                self.assertEqual(last(THREE, put(k, "#new")), [4])
                self.assertEqual(printed(THREE, put(k, "#new")), rows(*lines.split(" ")))

    def test_without_lines(self):
        self.assertEqual(ask(put(0, "P A"), PRINT), [[1], [4, 80, 32, 65, 10]])
        self.assertEqual(last(put(1, "P A")), [-1])

    def test_each_right_line(self):
        for line in right_lines():
            with self.subTest(line=line):
                self.assertEqual(last(THREE, put(1, line)), [4])
                self.assertEqual(printed(THREE, put(1, line)), rows("#0", line, "#1", "#2"))

    def test_an_empty_line_is_a_note(self):
        self.assertEqual(ask(put(0, ""), put(1, ""), PRINT), [[1], [2], [2, 10, 10]])

    def test_k_out_of_range(self):
        for k in (-1, -2, -3, 4, 5, 40, FAR, -FAR):
            with self.subTest(k=k):
                self.assertEqual(last(THREE, put(k, "#new")), [-1])
        self.assertEqual(last(FORTY, put(41, "#new")), [-1])

    def test_line_out_of_range(self):
        self.assertEqual(last(THREE, put(0, "#" * 200)), [-2])
        self.assertEqual(last(THREE, put(0, "#" * 201)), [-1])
        self.assertEqual(last(THREE, put(0, "#" * 210)), [-1])
        for number in (-1, 256, 321, FAR, -FAR):
            for row in ([number], [80, 32, number], [35, number], [number, 10]):
                with self.subTest(row=row):
                    self.assertEqual(last(THREE, put(0, row)), [-1])
        self.assertEqual(last(THREE, put(0, [0])), [-2])
        self.assertEqual(last(THREE, put(0, [255])), [-2])

    def test_each_wrong_line(self):
        for line in wrong_lines():
            with self.subTest(line=line):
                self.assertEqual(last(THREE, put(1, line)), [-2])

    def test_a_line_end_is_in_no_line(self):
        for line in ("\n", "P A\n", "\nP A", "#\n", "# a\n# b", "#\n\n", "P A\nP B", "L A B 1-2:3\n", "N A 1-2\n",
                     "P\nA"):
            with self.subTest(line=line):
                self.assertEqual(last(THREE, put(1, line)), [-2])

    def test_too_many_lines(self):
        self.assertEqual(ask(FORTY, cut(0), put(39, "#new"), put(40, "#more"), put(0, "")),
                         [[40], [39], [40], [-5], [-5]])

    def test_too_many_places(self):
        for k in (0, 6, 12):
            with self.subTest(k=k):
                self.assertEqual(last(TWELVE, put(k, "P B")), [-5])
                self.assertEqual(last(TWELVE, put(k, "P A7")), [13])
                self.assertEqual(last(TWELVE, put(k, "L B C 1-2:3")), [13])
        self.assertEqual(last(TWELVE, cut(3), put(3, "P B")), [12])

    def test_order_of_refusals(self):
        self.assertEqual(last(FORTY, put(41, "P")), [-1])
        self.assertEqual(last(FORTY, put(-1, "#")), [-1])
        self.assertEqual(last(FORTY, put(0, [80, 256])), [-1])
        self.assertEqual(last(FORTY, put(0, [80] * 201)), [-1])
        self.assertEqual(last(FORTY, put(0, "P")), [-2])
        self.assertEqual(last(FORTY, put(0, "\n")), [-2])
        self.assertEqual(last(TWELVE, put(0, "P b")), [-2])
        self.assertEqual(last(TWELVE, put(13, "P B")), [-1])

    def test_refusals_change_nothing(self):
        for refused, answer in ((put(4, "#"), -1), (put(-1, "#"), -1), (put(0, [256]), -1), (put(0, "P"), -2),
                                (put(0, "#\n"), -2)):
            with self.subTest(refused=refused):
                self.assertEqual(printed(THREE, refused), rows("#0", "#1", "#2"))
                self.assertEqual(ask(THREE, cut(0), UNDO, refused, REDO)[3:], [[answer], [2]])
                self.assertEqual(ask(THREE, refused, UNDO, UNDO)[2:], [[0], [-4]])
        for before, refused in ((FORTY, put(0, "#")), (TWELVE, put(0, "P B"))):
            self.assertEqual(printed(before, refused), printed(before))
            self.assertEqual(last(before, cut(0), UNDO, refused), [-5])
            self.assertEqual(last(before, cut(0), UNDO, refused, REDO), last(before, cut(0)))
            self.assertEqual(ask(before, refused, UNDO, UNDO)[2:], [[0], [-4]])


class TestCut(unittest.TestCase):
    def test_the_line_is_gone(self):
        for k, lines in ((0, ("#1", "#2")), (1, ("#0", "#2")), (2, ("#0", "#1"))):
            with self.subTest(k=k):
                self.assertEqual(last(THREE, cut(k)), [2])
                self.assertEqual(printed(THREE, cut(k)), rows(*lines))

    def test_all_lines_one_by_one(self):
        self.assertEqual(ask(THREE, cut(0), cut(0), cut(0), cut(0), PRINT), [[3], [2], [1], [0], [-4], [0]])

    def test_only_one_of_like_lines_is_gone(self):
        self.assertEqual(printed(text("#a\n#b\n#a\n#b"), cut(2)), rows("#a", "#b", "#b"))

    def test_out_of_range(self):
        for k in (-1, -2, -3, 41, 42, FAR, -FAR):
            with self.subTest(k=k):
                self.assertEqual(last(cut(k)), [-1])
                self.assertEqual(last(THREE, cut(k)), [-1])
                self.assertEqual(last(FORTY, cut(k)), [-1])

    def test_no_such_line(self):
        self.assertEqual(last(cut(0)), [-4])
        self.assertEqual(last(cut(40)), [-4])
        self.assertEqual(last(THREE, cut(3)), [-4])
        self.assertEqual(last(THREE, cut(40)), [-4])
        self.assertEqual(last(FORTY, cut(40)), [-4])
        self.assertEqual(last(FORTY, cut(39)), [39])

    def test_refusals_change_nothing(self):
        for k, answer in ((-1, -1), (41, -1), (3, -4), (40, -4)):
            with self.subTest(k=k):
                self.assertEqual(printed(THREE, cut(k)), rows("#0", "#1", "#2"))
                self.assertEqual(ask(THREE, put(3, "#3"), UNDO, cut(k), REDO)[3:], [[answer], [4]])
                self.assertEqual(ask(THREE, cut(k), UNDO, UNDO)[2:], [[0], [-4]])


if __name__ == "__main__":
    unittest.main()
