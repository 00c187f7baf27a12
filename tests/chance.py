"""Calls by chance, for the tests that draw them."""

import random

from tests.asking import FAR, check, cut, leg, put, text
from tests.model import ARGUMENTS, HEAVY
from tests.samples import right_lines, wrong_lines


class Chance:
    """Calls by chance; the same ones for the same seed."""

    def __init__(self, seed):
        self.random = random.Random(seed)
        self.right = right_lines()
        self.wrong = wrong_lines()

    def few(self, most):
        return self.random.randint(0, most)

    def name(self):
        return self.random.choice("AAAAABBBBBCCCDDEFGHIJKLMN") + self.random.choice([""] * 6 + ["7"])

    def line(self):
        first = self.few(401)
        stretch = f"{first}-{first + self.few(40)}" if self.few(9) else f"{self.few(400)}-{self.few(400)}"
        windows = ",".join([f"{self.few(99)}-{self.few(300) + 95}:{self.few(29) + 1}" for i in range(self.few(3) + 1)])
        kind = self.random.choice("PPPPLLLBBBNN##rw" if self.few(5) else "PLBr")
        if kind == "P":
            return f"P {self.name()}"
        if kind in "LB":
            return f"{kind} {self.name()} {self.name()} {windows}"
        if kind == "N":
            return f"N {self.name()} {stretch}"
        if kind == "#":
            return self.random.choice(["", "# a note"])
        return self.random.choice(self.right if kind == "r" or self.few(3) else self.wrong)

    def spoiled(self, written):
        """The same, or with one sign put in, taken away or put in another's place."""
        if self.few(3) or not written:
            return written
        at = self.few(len(written) - 1)
        sign = self.random.choice("# ,-:0149ABLNPaz\n\t~\x7f")
        return written[:at] + self.random.choice(["", sign]) + written[at + self.few(1):]

    def call(self):
        kind = self.random.choice([0, 1, 1, 1, 1, 1, 1, 1, 2, 3, 3, 4, 4, 5, 6, 7, 8, 8])
        if kind == 0:
            return text(self.spoiled("\n".join([self.line() for i in range(self.few(4) * self.few(11))]))[:2010])
        if kind == 1:
            return put(self.few(4) + self.few(6) * self.few(1) - self.few(1), self.spoiled(self.line()))
        if kind == 2:
            return cut(self.few(42) - 1 if self.few(1) else self.few(5))
        if kind == 8:
            return leg(self.few(103) - 1 if self.few(1) else self.few(9))
        return [kind]


class Traveller(Chance):
    """Lands by chance, edits of them, and calls that ask when one can be where."""

    def __init__(self, seed):
        Chance.__init__(self, seed)
        # In a short span of days much hangs on each of them; in all days what is done is seldom near the last one.
        self.span = self.random.choice([5, 12, 40, 400])
        self.base = self.random.choice([0, self.few(400 - self.span), 400 - self.span])
        self.longest = self.random.choice([1, 3, 30])
        self.names = "ABCDEFGHIJKL"[:self.random.choice([2, 3, 4, 6, 12])]
        self.heavy = 0

    def name(self):
        return self.random.choice(self.names) if self.few(30) else "X"

    def stretch(self):
        first = self.base + self.few(self.span)
        return f"{first}-{min(400, first + self.few(self.random.choice([0, 2, self.span])))}"

    def line(self):
        kind = self.random.choice("LLLLBBBBNNP#")
        if kind == "#":
            return "# a note"
        if kind == "P":
            return f"P {self.name()}"
        if kind == "N":
            return f"N {self.name()} {self.stretch()}"
        windows = [f"{self.stretch()}:{1 + self.few(self.longest - 1)}" for i in range(1 + self.few(2))]
        names = self.random.sample(self.names, 2)
        return f"{kind} {names[0]} {names[1]} {','.join(windows)}"

    def land(self):
        """A text with each place and some more lines, in any order."""
        some = self.random.choice([2, len(self.names), 2 * len(self.names), 27])
        lines = [f"P {name}" for name in self.names] + [self.line() for i in range(some)]
        self.random.shuffle(lines)
        while len("\n".join(lines)) > 2000:
            lines.pop()
        return text("\n".join(lines))

    def day(self):
        near = self.base + self.few(self.span)
        return self.random.choice([near, near, near, self.base, self.base, 0, self.few(400), 400])

    def last_day(self):
        near = min(400, self.base + self.span + self.few(self.longest))
        return self.random.choice([near, near, 400, 400, self.day()])

    def number(self, sign, count):
        """An argument of a call: a place, a day, a last day or how many days one stays; now and then none of these."""
        if not self.few(60):
            return self.random.choice([-1, count, 12, 101, 401, FAR, -FAR])
        if sign == "p":
            return self.few(max(count, 1) - 1)
        if sign == "d":
            return self.day()
        if sign == "l":
            return self.last_day()
        return self.random.choice([0, 0, 1, 1, 2, self.few(9), self.few(100), 100])

    def starts(self, trips, place, day):
        """Starts one behind another, often an itinerary up to one of them."""
        row = []
        for i in range(self.few(self.random.choice([3, 12, 32]))):
            ready = self.starts_ready(trips, place, day)
            if ready and self.few(20):
                start = self.random.choice(ready[:6])
                place, day = start[2:]
            else:
                start = (self.day(), self.few(len(trips.legs)))
            row += start[:2]
        if not self.few(20):
            row.append(self.random.choice([-1, 0, 400, 401, FAR]))
        return row

    def starts_ready(self, trips, place, day):
        """All starts that can be made, each with where and when one is behind it; some others among them."""
        found = []
        while day <= 400:
            for number, leg_told in enumerate(trips.legs):
                takes = trips.takes(number, day)
                if leg_told[0] == place and takes:
                    found.append((day, number, leg_told[1], day + takes))
            if not trips.stays(place, day) and self.few(9):
                break
            day += 1
        return found

    def edit(self):
        kind = self.random.choice([0, 1, 1, 1, 1, 2, 2, 3, 4])
        if kind == 0:
            return self.land()
        if kind == 1:
            return put(self.few(9), self.spoiled(self.line()))
        if kind == 2:
            return cut(self.few(20))
        return [kind]

    def call(self, model):
        """An edit, or what is asked of the model's land."""
        if not self.few(5):
            return self.edit()
        kind = self.random.choice(list(ARGUMENTS))
        if kind in HEAVY and self.heavy == 30:
            return [7]
        self.heavy += kind in HEAVY
        trips = model.trips()
        numbers = [self.number(sign, trips.count) for sign in ARGUMENTS[kind]]
        if kind != 14:
            return [kind] + numbers
        known = numbers[0] in range(trips.count) and numbers[1] in range(401)
        return check(numbers[0], numbers[1], self.starts(trips, *numbers) if known else [0, 0])
