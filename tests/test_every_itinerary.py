"""Small lands, in which every itinerary can be gone: what is told is looked up among all of them."""

import random
import unittest

from tests.asking import around, ask, check, days, latest, rows, safe, text, way, when

NAMES = "ABC"
# No leg and no line without a stay has this day or a later one, and who started is there by NEAR - 1.
END = 7
NEAR = 10


class SmallLand:
    """Places A, B, C, a few legs, a few days without a stay."""

    def __init__(self, seed):
        chance = random.Random(seed)
        self.closed = {(chance.randrange(3), chance.randrange(END)) for i in range(chance.randrange(7))}
        self.legs = []
        for i in range(chance.randint(2, 6)):
            begin, end = chance.sample(range(3), 2)
            firsts = [chance.randrange(END) for j in range(chance.randint(1, 3))]
            windows = [(first, chance.randrange(first, END), chance.randint(1, 3)) for first in firsts]
            self.legs.append((begin, end, windows))
        self.all_of = {(x, t): self.itineraries(x, t) for x in range(3) for t in range(NEAR)}
        self.days_of = {(x, t, y): self.days_at(x, t, y) for x, t in self.all_of for y in range(3)}

    def text(self):
        lines = [f"P {name}" for name in NAMES]
        for begin, end, windows in self.legs:
            told = ",".join([f"{first}-{last}:{takes}" for first, last, takes in windows])
            lines.append(f"L {NAMES[begin]} {NAMES[end]} {told}")
        return text(rows(*lines, *[f"N {NAMES[place]} {day}-{day}" for place, day in self.closed]))

    def stays(self, place, first, behind):
        return all([(place, day) not in self.closed for day in range(first, behind)])

    def itineraries(self, place, day):
        """Each itinerary from a place on a day: its starts, where one is behind it, and when."""
        found = [((), place, day)]
        for start in [start for start in range(day, END) if self.stays(place, day, start)]:
            for number, (begin, end, windows) in enumerate(self.legs):
                having = [takes for first, last, takes in windows if first <= start <= last]
                if begin == place and having:
                    for rest, at, then in self.itineraries(end, start + having[0]):
                        found.append((((start, number),) + rest, at, then))
        return found

    def days_at(self, x, t, y):
        """The days ahead of NEAR on which one can be at y."""
        ends = {then for starts, at, then in self.all_of[x, t] if at == y}
        return [day for day in range(NEAR) if any([then <= day and self.stays(y, then, day) for then in ends])]


def stretches(found, goes_on=False):
    """The stretches of these days; the last one may go on to day 400."""
    told = []
    for day in found:
        if told and told[-1] == day - 1:
            told[-1] = day
        else:
            told += [day, day]
    if goes_on:
        told[-1] = 400
    return [len(told) // 2] + told


def there(land, x, t, y):
    """The calls when, days and way, and their answers."""
    found = land.days_of[x, t, y]
    told = [(when(x, t, y), found[:1] or [-9]), (days(x, t, y), stretches(found, NEAR - 1 in found))]
    if not found:
        return told + [(way(x, t, y), [-9])]
    ending = [starts for starts, at, then in land.all_of[x, t] if (at, then) == (y, found[0])]
    best = min(ending, key=lambda starts: (len(starts), starts))
    return told + [(way(x, t, y), [found[0], len(best)] + [number for start in best for number in start])]


def in_time(land, x, y, last):
    """The calls latest and safe, and their answers."""
    found = [t for t in range(last + 1) if any([day <= last for day in land.days_of[x, t, y]])]
    return [(latest(x, y, last), found[-1:] or [-9]), (safe(x, y, last), stretches(found))]


def there_and_back(land, x, t, y, stay, last):
    """The call around, and its answer."""
    back = []
    for day in land.days_of[x, t, y]:
        if day + stay < NEAR and land.stays(y, day, day + stay):
            back += land.days_of[y, day + stay, x]
    return [(around(x, t, y, stay, last), [min(back)] if back and min(back) <= last else [-9])]


def checks(land, x, t):
    """The call check for some itineraries, also with another start behind them, and the answers."""
    known = {starts: [1, at, then] for starts, at, then in land.all_of[x, t]}
    asked = list(known)[:8]
    asked += [starts + ((day, number),) for starts in asked[:3] for day in (1, 4) for number in (0, 1, len(land.legs))]
    told = []
    for starts in asked:
        wrong = [i for i in range(len(starts)) if starts[:i + 1] not in known]
        told.append((check(x, t, [number for start in starts for number in start]),
                     [0, wrong[0]] if wrong else known[starts]))
    return told


class TestEveryItinerary(unittest.TestCase):
    def look(self, land, told):
        """Ask in lists that have at most 30 of these calls."""
        for i in range(0, len(told), 30):
            part = told[i:i + 30]
            self.assertEqual(ask(land.text(), *[call for call, answer in part])[1:], [answer for call, answer in part])

    def test_small_lands(self):
        for seed in range(120):
            land = SmallLand(seed)
            told = []
            for x, y in ((0, 1), (1, 2), (2, 0), (1, 0), (2, 2)):
                told += there(land, x, 0, y) + there(land, x, 2, y) + in_time(land, x, y, 4) + in_time(land, x, y, 7)
                told += there_and_back(land, x, 0, y, 0, 9) + there_and_back(land, x, 1, y, 2, 8)
            for x in range(3):
                told += checks(land, x, 0) + checks(land, x, 3)
            with self.subTest(seed=seed):
                self.look(land, told)


if __name__ == "__main__":
    unittest.main()
