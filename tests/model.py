"""The whole program once more: a plain model, written another way, from the document's words."""

import re

from tests.asking import LEGS, PLACES, PRINT, REDO, UNDO
from tests.trips import Trips, stretches

NAME = "([A-Z][A-Z0-9]{0,5})"
NUMBER = "(0|[1-9][0-9]{0,2})"
STRETCH = f"{NUMBER}-{NUMBER}"
WINDOW = f"{STRETCH}:{NUMBER}"

# The whole numbers of each call: places, days, how many days one stays, last days.
ARGUMENTS = {9: "pdp", 10: "pdp", 11: "ppl", 12: "ppl", 13: "pdp", 14: "pd", 15: "pdpsl", 16: "d", 17: "pd"}
# Those calls of which a list has at most 30.
HEAVY = (9, 10, 11, 12, 13, 15)


def is_right(line):
    """Whether a line is as told, by patterns."""
    if re.fullmatch("(#[ -~]{0,59})?", line) or re.fullmatch(f"P {NAME}", line):
        return True
    ends = re.fullmatch(f"[LB] {NAME} {NAME} ({WINDOW}(,{WINDOW}){{0,5}})", line)
    if ends and ends[1] != ends[2]:
        return all(int(a) <= int(b) <= 400 and 1 <= int(c) <= 30 for a, b, c in re.findall(WINDOW, line))
    stretch = re.fullmatch(f"N {NAME} {STRETCH}", line)
    return bool(stretch) and int(stretch[2]) <= int(stretch[3]) <= 400


class Model:
    """All states the lines ever had on the way here, and at which of them one is."""

    def __init__(self):
        self.states = [[]]
        self.at = 0
        self.lowest = 0
        self.known = {}

    def names(self, lines):
        return list(dict.fromkeys([line[2:] for line in lines if line.startswith("P")]))

    def change(self, lines):
        if len(lines) > 40 or len(self.names(lines)) > 12:
            return [-5]
        self.at += 1
        self.states[self.at:] = [lines]
        self.lowest = max(self.lowest, self.at - 20)
        return [len(lines)]

    def step(self, by):
        if not self.lowest <= self.at + by < len(self.states):
            return [-4]
        self.at += by
        return [len(self.states[self.at])]

    def legs(self):
        lines = self.states[self.at]
        names = self.names(lines)
        found = []
        for line in lines:
            words = line.split(" ")
            if words[0] in ("L", "B") and words[1] in names and words[2] in names:
                windows = [int(number) for number in re.findall("[0-9]+", words[3])]
                ends = [names.index(words[1]), names.index(words[2])]
                found.append(ends + [len(windows) // 3] + windows)
                if words[0] == "B":
                    found.append(ends[::-1] + [len(windows) // 3] + windows)
        return found

    def text(self, row):
        if len(row) > 2000 or not set(row) <= set(range(256)):
            return [-1]
        lines = bytes(row).decode("latin-1").split("\n")
        if lines[-1] == "":
            lines.pop()
        wrong = [i for i, line in enumerate(lines, 1) if not is_right(line)]
        return [-100 - wrong[0]] if wrong else self.change(lines)

    def put(self, k, row):
        lines = list(self.states[self.at])
        if k not in range(len(lines) + 1) or len(row) > 200 or not set(row) <= set(range(256)):
            return [-1]
        line = bytes(row).decode("latin-1")
        if not is_right(line):
            return [-2]
        lines.insert(k, line)
        return self.change(lines)

    def cut(self, k):
        lines = list(self.states[self.at])
        if k not in range(41):
            return [-1]
        if lines[k:] == []:
            return [-4]
        lines.pop(k)
        return self.change(lines)

    def tell(self, call):
        lines = self.states[self.at]
        if call == PRINT:
            printed = [sign for line in lines for sign in (line + "\n").encode("latin-1")]
            return [len(printed)] + printed
        if call == PLACES:
            names = self.names(lines)
            return [len(names)] + [n for name in names for n in [len(name)] + list(name.encode())]
        legs = self.legs()
        if call == LEGS:
            return [len(legs)] + [n for found in legs for n in found[:3]]
        if call[1] not in range(101):
            return [-1]
        return legs[call[1]] if call[1] < len(legs) else [-4]

    def trips(self):
        """The land's trips; kept for these lines, as finding them takes long."""
        lines = self.states[self.at]
        key = tuple(lines)
        if key not in self.known:
            names = self.names(lines)
            closed = set()
            for words in [line.split(" ") for line in lines]:
                if words[0] == "N" and words[1] in names:
                    first, last = words[2].split("-")
                    closed |= {(names.index(words[1]), day) for day in range(int(first), int(last) + 1)}
            self.known[key] = Trips(len(names), self.legs(), closed)
        return self.known[key]

    def are_in_range(self, kind, numbers):
        """Whether each argument of a call 9 to 17 is in its range; check's starts are looked at elsewhere."""
        ranges = {"p": range(len(self.names(self.states[self.at]))), "d": range(401), "l": range(401), "s": range(101)}
        return all([number in ranges[sign] for number, sign in zip(numbers, ARGUMENTS[kind], strict=True)])

    def go(self, kind, numbers):
        """The answer to one of the calls when, days, latest, safe, way, around."""
        trips = self.trips()
        if kind == 9:
            return trips.days(*numbers)[:1] or [-9]
        if kind == 10:
            return stretches(trips.days(*numbers))
        if kind == 11:
            return trips.safe(*numbers)[-1:] or [-9]
        if kind == 12:
            return stretches(trips.safe(*numbers))
        if kind == 15:
            return trips.around(*numbers)[:1] or [-9]
        if not trips.days(*numbers):
            return [-9]
        starts = trips.way(*numbers)
        return trips.days(*numbers)[:1] + [len(starts)] + [number for start in starts for number in start]

    def look(self, kind, numbers, row):
        """The answer to one of the calls check, open, stay."""
        trips = self.trips()
        if kind == 17:
            return [1 if trips.stays(*numbers) else 0]
        if kind == 16:
            found = [i for i in range(len(trips.legs)) if trips.takes(i, numbers[0])]
            return [len(found)] + found
        if len(row) % 2 or len(row) > 60 or not set(row) <= set(range(401)):
            return [-1]
        return trips.check(*numbers, list(zip(row[::2], row[1::2])))

    def answer(self, call):
        if call[0] >= 9:
            numbers = call[1:1 + len(ARGUMENTS[call[0]])]
            if not self.are_in_range(call[0], numbers):
                return [-1]
            if call[0] in HEAVY:
                return self.go(call[0], numbers)
            return self.look(call[0], numbers, call[4:])
        if call[0] == 0:
            return self.text(call[2:])
        if call[0] == 1:
            return self.put(call[1], call[3:])
        if call[0] == 2:
            return self.cut(call[1])
        if call in (UNDO, REDO):
            return self.step(1 if call == REDO else -1)
        return self.tell(call)
