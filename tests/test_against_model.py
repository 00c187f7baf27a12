"""Many lists of calls, answered a second time by a plain model that is written another way."""

import random
import re
import unittest

from tests.asking import LEGS, PLACES, PRINT, REDO, UNDO, ask, cut, leg, put, text
from tests.samples import right_lines, wrong_lines

NAME = "([A-Z][A-Z0-9]{0,5})"
NUMBER = "(0|[1-9][0-9]{0,2})"
STRETCH = f"{NUMBER}-{NUMBER}"
WINDOW = f"{STRETCH}:{NUMBER}"


def is_right(line):
    """Whether a line is as told, by patterns."""
    if re.fullmatch("(#[ -~]{0,59})?", line) or re.fullmatch(f"P {NAME}", line):
        return True
    ends = re.fullmatch(f"[LB] {NAME} {NAME} ({WINDOW}(,{WINDOW}){{0,5}})", line)
    if ends and ends[1] != ends[2]:
        return all(int(a) <= int(b) <= 400 and 1 <= int(c) <= 30 for a, b, c in re.findall(WINDOW, line))
    stretch = re.fullmatch(f"N {NAME} {STRETCH}", line)
    return bool(stretch) and int(stretch[2]) <= int(stretch[3]) <= 400


class Model:
    """All states the lines ever had on the way here, and at which of them one is."""

    def __init__(self):
        self.states = [[]]
        self.at = 0
        self.lowest = 0

    def names(self, lines):
        return list(dict.fromkeys([line[2:] for line in lines if line.startswith("P")]))

    def change(self, lines):
        if len(lines) > 40 or len(self.names(lines)) > 12:
            return [-5]
        self.at += 1
        self.states[self.at:] = [lines]
        self.lowest = max(self.lowest, self.at - 20)
        return [len(lines)]

    def step(self, by):
        if not self.lowest <= self.at + by < len(self.states):
            return [-4]
        self.at += by
        return [len(self.states[self.at])]

    def legs(self):
        lines = self.states[self.at]
        names = self.names(lines)
        found = []
        for line in lines:
            words = line.split(" ")
            if words[0] in ("L", "B") and words[1] in names and words[2] in names:
                windows = [int(number) for number in re.findall("[0-9]+", words[3])]
                ends = [names.index(words[1]), names.index(words[2])]
                found.append(ends + [len(windows) // 3] + windows)
                if words[0] == "B":
                    found.append(ends[::-1] + [len(windows) // 3] + windows)
        return found

    def text(self, row):
        if len(row) > 2000 or not set(row) <= set(range(256)):
            return [-1]
        lines = bytes(row).decode("latin-1").split("\n")
        if lines[-1] == "":
            lines.pop()
        wrong = [i for i, line in enumerate(lines, 1) if not is_right(line)]
        return [-100 - wrong[0]] if wrong else self.change(lines)

    def put(self, k, row):
        lines = list(self.states[self.at])
        if k not in range(len(lines) + 1) or len(row) > 200 or not set(row) <= set(range(256)):
            return [-1]
        line = bytes(row).decode("latin-1")
        if not is_right(line):
            return [-2]
        lines.insert(k, line)
        return self.change(lines)

    def cut(self, k):
        lines = list(self.states[self.at])
        if k not in range(41):
            return [-1]
        if lines[k:] == []:
            return [-4]
        lines.pop(k)
        return self.change(lines)

    def tell(self, call):
        lines = self.states[self.at]
        if call == PRINT:
            printed = [sign for line in lines for sign in (line + "\n").encode("latin-1")]
            return [len(printed)] + printed
        if call == PLACES:
            names = self.names(lines)
            return [len(names)] + [n for name in names for n in [len(name)] + list(name.encode())]
        legs = self.legs()
        if call == LEGS:
            return [len(legs)] + [n for found in legs for n in found[:3]]
        if call[1] not in range(101):
            return [-1]
        return legs[call[1]] if call[1] < len(legs) else [-4]

    def answer(self, call):
        if call[0] == 0:
            return self.text(call[2:])
        if call[0] == 1:
            return self.put(call[1], call[3:])
        if call[0] == 2:
            return self.cut(call[1])
        if call in (UNDO, REDO):
            return self.step(1 if call == REDO else -1)
        return self.tell(call)


class Chance:
    """Calls by chance; the same ones for the same seed."""

    def __init__(self, seed):
        self.random = random.Random(seed)
        self.right = right_lines()
        self.wrong = wrong_lines()

    def few(self, most):
        return self.random.randint(0, most)

    def name(self):
        return self.random.choice("AAAAABBBBBCCCDDEFGHIJKLMN") + self.random.choice([""] * 6 + ["7"])

    def line(self):
        first = self.few(401)
        stretch = f"{first}-{first + self.few(40)}" if self.few(9) else f"{self.few(400)}-{self.few(400)}"
        windows = ",".join([f"{self.few(99)}-{self.few(300) + 95}:{self.few(29) + 1}" for i in range(self.few(3) + 1)])
        kind = self.random.choice("PPPPLLLBBBNN##rw" if self.few(5) else "PLBr")
        if kind == "P":
            return f"P {self.name()}"
        if kind in "LB":
            return f"{kind} {self.name()} {self.name()} {windows}"
        if kind == "N":
            return f"N {self.name()} {stretch}"
        if kind == "#":
            return self.random.choice(["", "# a note"])
        return self.random.choice(self.right if kind == "r" or self.few(3) else self.wrong)

    def spoiled(self, written):
        """The same, or with one sign put in, taken away or put in another's place."""
        if self.few(3) or not written:
            return written
        at = self.few(len(written) - 1)
        sign = self.random.choice("# ,-:0149ABLNPaz\n\t~\x7f")
        return written[:at] + self.random.choice(["", sign]) + written[at + self.few(1):]

    def call(self):
        kind = self.random.choice([0, 1, 1, 1, 1, 1, 1, 1, 2, 3, 3, 4, 4, 5, 6, 7, 8, 8])
        if kind == 0:
            return text(self.spoiled("\n".join([self.line() for i in range(self.few(4) * self.few(11))]))[:2010])
        if kind == 1:
            return put(self.few(4) + self.few(6) * self.few(1) - self.few(1), self.spoiled(self.line()))
        if kind == 2:
            return cut(self.few(42) - 1 if self.few(1) else self.few(5))
        if kind == 8:
            return leg(self.few(103) - 1 if self.few(1) else self.few(9))
        return [kind]


class TestAgainstModel(unittest.TestCase):
    def test_lines(self):
        for line in right_lines():
            self.assertTrue(is_right(line), line)
        for line in wrong_lines():
            self.assertFalse(is_right(line), line)

    def test_calls_by_chance(self):
        for seed in range(300):
            chance = Chance(seed)
            calls = [text("P A\nP B\nB A B 0-9:1\nP C")] + [chance.call() for i in range(149)]
            model = Model()
            with self.subTest(seed=seed):
                self.assertEqual(ask(*calls), [model.answer(call) for call in calls])


if __name__ == "__main__":
    unittest.main()
