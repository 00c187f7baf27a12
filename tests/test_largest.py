"""The largest lists of calls: 150 calls, 30 of them that look through all days, on as large a land as can be."""

import unittest

from seasonland.desk import answers
from tests.asking import (LEGS, PLACES, PRINT, around, ask, check, days, latest, leg, open_legs, put, safe, stay, text,
                          way, when)
from tests.model import HEAVY, Model


def leg_lines(count, names, windows):
    """So many B lines, one after another between other places."""
    lines = []
    for i in range(count):
        step = 1 + i // len(names) % (len(names) - 1)
        lines.append(f"B {names[i % len(names)]} {names[(i + step) % len(names)]} {windows(i)}")
    return lines


def told_line_by_line(lines):
    """As much as one text may have, then the rest by put."""
    first = list(lines)
    while len("\n".join(first)) > 2000:
        first.pop()
    return [text("\n".join(first))] + [put(k, lines[k]) for k in range(len(first), len(lines))]


def thirty(x, y):
    """Five of each of the calls of which there are at most 30."""
    calls = []
    for i in range(5):
        calls += [when(x, i, y), days(y, 9 * i, x), latest(x, y, 400 - i), safe(y, x, 390 + i), way(x, 11 * i, y),
                  around(x, i, y, 25 * i, 400 - i)]
    return calls


def filled(calls, places_count):
    """The calls, and so many others that they are 150."""
    calls = list(calls)
    others = [PRINT, PLACES, LEGS, leg(55), open_legs(400), open_legs(7), stay(places_count - 1, 3),
              check(0, 0, [number for day in range(30) for number in (day, day % 2)]), check(1, 400, [400, 0])]
    while len(calls) < 150:
        calls.append(others[len(calls) % len(others)])
    return calls


def many_windows(i):
    """Six windows; the days that are open hang on the line."""
    return ",".join([f"{60 * j + i}-{60 * j + i + 5 * j}:{1 + (i * 7 + j * 5) % 30}" for j in range(6)])


def the_sixth_window_counts(i):
    return "0-0:1," * 5 + f"0-400:{1 + i % 3}"


class TestLargest(unittest.TestCase):
    def look(self, names, windows, more):
        lines = [f"P {name}" for name in names] + more
        lines += leg_lines(40 - len(lines), names, windows)
        calls = filled(told_line_by_line(lines) + thirty(0, len(names) - 1), len(names))
        self.assertEqual((len(lines), len(calls), len([call for call in calls if call[0] in HEAVY])), (40, 150, 30))
        self.assertLessEqual(sum([len(call) for call in calls]), 17000)
        model = Model()
        told = [model.answer(call) for call in calls]
        self.assertEqual(ask(*calls), told)
        self.assertNotIn([-1], told)

    def test_twelve_places(self):
        names = [f"PLACE{sign}" for sign in "ABCDEFGHIJKL"]
        self.look(names, many_windows, [f"N PLACE{sign} 90-95" for sign in "ACE"])
        self.look(names, the_sixth_window_counts, [])

    def test_two_places(self):
        self.look(["A", "B"], many_windows, [])
        self.look(["A", "B"], the_sixth_window_counts, ["N A 0-400", "N B 0-400"])

    def test_a_way_of_as_many_starts_as_can_be(self):
        lines = ["P A", "P B", "B A B 0-400:1", "N A 0-400", "N B 0-400", "P C", "L A C 398-398:1"]
        lines += ["N A 0-400"] * (40 - len(lines))
        calls = [text("\n".join(lines))] + [way(0, 0, 2)] * 30 + [open_legs(5)] * 119
        self.assertEqual([len(answer) for answer in ask(*calls)], [1] + [2 + 2 * 399] * 30 + [3] * 119)

    def test_as_long_as_a_list_can_be(self):
        calls = text([10] * 2010) * 8 + check(0, 0, [0] * 70) * 8 + when(0, 0, 0) * 30
        calls += check(0, 0, []) * ((17000 - len(calls)) // 4)
        self.assertEqual(len(calls), 17000)
        self.assertEqual(set(answers(calls)), {1, -1})


if __name__ == "__main__":
    unittest.main()
