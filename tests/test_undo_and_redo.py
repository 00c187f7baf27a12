"""Promises 3 and 4: undo and redo."""

import unittest

from tests.asking import LEGS, PLACES, PRINT, REDO, UNDO, ask, cut, last, printed, put, rows, text


def changes(count):
    """So many changes, behind which there are 1, 2, .. lines."""
    return [put(0, f"#{i}") for i in range(count)]


class TestEnds(unittest.TestCase):
    def test_nothing_at_the_beginning(self):
        self.assertEqual(ask(UNDO, REDO, UNDO), [[-4], [-4], [-4]])

    def test_nothing_to_be_done_again_behind_a_change(self):
        self.assertEqual(ask(text("P A"), REDO), [[1], [-4]])

    def test_one_change_forth_and_back(self):
        self.assertEqual(ask(text("P A"), UNDO, UNDO, REDO, REDO, UNDO, REDO),
                         [[1], [0], [-4], [1], [-4], [0], [1]])

    def test_refused_undo_and_redo_change_nothing(self):
        self.assertEqual(printed(text("P A"), REDO, REDO), "P A\n")
        self.assertEqual(ask(text("P A"), REDO, UNDO, UNDO, UNDO, REDO)[2:], [[0], [-4], [-4], [1]])


class TestEachChange(unittest.TestCase):
    def test_lines_come_back(self):
        before = text("P A\nP B\nB A B 1-2:3")
        asked = [PRINT, PLACES, LEGS]
        for change in (text("# else"), text(""), put(1, "P C"), put(0, "P B"), put(3, ""), cut(0), cut(1), cut(2)):
            with self.subTest(change=change):
                self.assertEqual(ask(before, change, UNDO, *asked)[3:], ask(before, *asked)[1:])
                self.assertEqual(ask(before, change, UNDO, REDO, *asked)[4:], ask(before, change, *asked)[2:])

    def test_a_change_that_leaves_the_lines_is_one(self):
        self.assertEqual(ask(text("P A"), text("P A"), UNDO, UNDO, UNDO), [[1], [1], [1], [0], [-4]])
        self.assertEqual(ask(text(""), UNDO, UNDO, REDO, REDO), [[0], [0], [-4], [0], [-4]])
        self.assertEqual(ask(text("P A"), put(1, "P B"), UNDO, text("P A"), REDO)[3:], [[1], [-4]])

    def test_calls_that_only_tell_are_none(self):
        self.assertEqual(ask(text("P A"), put(1, "P B"), UNDO, PRINT, PLACES, LEGS, [8, 0], REDO, UNDO, UNDO, UNDO)[7:],
                         [[2], [1], [0], [-4]])


class TestTwenty(unittest.TestCase):
    def test_no_more_than_twenty(self):
        for count in (19, 20, 21, 25, 40):
            with self.subTest(count=count):
                undone = min(count, 20)
                told = ask(*changes(count), *[UNDO] * 21)[count:]
                self.assertEqual(told, [[count - 1 - i] for i in range(undone)] + [[-4]] * (21 - undone))

    def test_changes_that_leave_the_lines_count_too(self):
        again = [text("P A")] * 20
        self.assertEqual(last(text("P A"), *again, *[UNDO] * 20), [1])
        self.assertEqual(last(text("P A"), *again, *[UNDO] * 21), [-4])

    def test_those_done_again_can_be_undone_again(self):
        told = ask(*changes(25), *[UNDO] * 21, *[REDO] * 21, *[UNDO] * 21)[25:]
        down = [[24 - i] for i in range(20)] + [[-4]]
        up = [[6 + i] for i in range(20)] + [[-4]]
        self.assertEqual(told, down + up + down)

    def test_twenty_are_counted_from_the_last_change(self):
        told = ask(*changes(25), *[UNDO] * 5, put(0, "#new"), *[UNDO] * 17)
        self.assertEqual(told[30:], [[21]] + [[20 - i] for i in range(16)] + [[-4]])

    def test_twenty_behind_some_done_again(self):
        told = ask(*changes(20), UNDO, UNDO, REDO, put(0, "#a"), put(0, "#b"), *[UNDO] * 21)
        self.assertEqual(told[23:], [[20], [21]] + [[20 - i] for i in range(20)] + [[-4]])


class TestOrder(unittest.TestCase):
    def test_the_last_undone_comes_first(self):
        before = [text("#a"), put(1, "#b"), text("#c"), put(0, "#d"), UNDO, UNDO, UNDO]
        self.assertEqual(printed(*before), rows("#a"))
        self.assertEqual(printed(*before, REDO), rows("#a", "#b"))
        self.assertEqual(printed(*before, REDO, REDO), rows("#c"))
        self.assertEqual(printed(*before, REDO, REDO, REDO), rows("#d", "#c"))
        self.assertEqual(last(*before, REDO, REDO, REDO, REDO), [-4])

    def test_none_behind_another_change(self):
        before = [text("#a"), put(1, "#b"), put(2, "#c"), UNDO, UNDO]
        for change in (text("#new"), text("#a"), text(""), put(0, "#new"), cut(0)):
            with self.subTest(change=change):
                self.assertEqual(last(*before, change, REDO), [-4])
                self.assertEqual(last(*before, REDO, change, REDO), [-4])
                self.assertEqual(printed(*before, change, UNDO), rows("#a"))
                self.assertEqual(printed(*before, change, UNDO, REDO), printed(*before, change))
                self.assertEqual(last(*before, change, UNDO, REDO, REDO), [-4])

    def test_a_refused_change_takes_nothing_away(self):
        before = [text("#a"), put(1, "#b"), put(2, "#c"), UNDO, UNDO]
        for refused in (text("P"), text([256]), text("\n" * 41), put(0, "P"), put(9, "#"), cut(30), cut(-1)):
            with self.subTest(refused=refused):
                self.assertLess(last(*before, refused)[0], 0)
                self.assertEqual(ask(*before, refused, REDO, refused, REDO, REDO)[6::2], [[2], [3]])
                self.assertEqual(ask(*before, refused, UNDO, UNDO)[6:], [[0], [-4]])


if __name__ == "__main__":
    unittest.main()
