"""Where one can be in a land, and how one gets there: a plain model, written another way than the program."""

DAYS = range(401)


class Trips:
    """A land: how many places, legs as [begin, end, how many windows, windows], places and days without a stay.

    From the last day back it is found for each place and day at once where and when one can be from there on:
    one whole number, in which each place and day has its bit.
    """

    def __init__(self, count, legs, closed):
        self.count = count
        self.legs = legs
        self.closed = closed
        self.table = [[self.first_window(leg[3:], day) for day in DAYS] for leg in legs]
        self.later = {}
        for day in reversed(DAYS):
            for place in range(count):
                found = self.bit(place, day)
                if self.stays(place, day):
                    found |= self.later.get((place, day + 1), 0)
                for number, leg in enumerate(legs):
                    if leg[0] == place and self.takes(number, day):
                        found |= self.later.get((leg[1], day + self.takes(number, day)), 0)
                self.later[place, day] = found

    def bit(self, place, day):
        return 1 << (len(DAYS) * place + day)

    def stays(self, place, day):
        return (place, day) not in self.closed

    def first_window(self, windows, day):
        having = [windows[i + 2] for i in range(0, len(windows), 3) if windows[i] <= day <= windows[i + 1]]
        return having[0] if having else 0

    def takes(self, number, day):
        """How long who starts on this day is under way, 0 if the leg isn't open."""
        return self.table[number][day]

    def can_be(self, x, t, y, day):
        return self.later[x, t] & self.bit(y, day) != 0

    def days(self, x, t, y):
        return [day for day in DAYS if self.can_be(x, t, y, day)]

    def safe(self, x, y, last):
        up_to = sum([self.bit(y, day) for day in range(last + 1)])
        return [day for day in range(last + 1) if self.later[x, day] & up_to]

    def around(self, x, t, y, stay, last):
        """All days up to the last one on which one can be back."""
        found = set()
        for day in self.days(x, t, y):
            if day + stay in DAYS and all([self.stays(y, day + i) for i in range(stay)]):
                found |= set(self.days(y, day + stay, x))
        return sorted([day for day in found if day <= last])

    def way(self, x, t, y):
        """All ways with one start, then with two, and so on; of those that end alike the least one is kept."""
        first = self.days(x, t, y)[0]
        ends = {(x, t): ()}
        while (y, first) not in ends:
            ends = self.one_start_more(ends)
        return ends[y, first]

    def one_start_more(self, ends):
        there = dict(ends)
        further = {}
        for day in DAYS:
            for number, leg in enumerate(self.legs):
                if (leg[0], day) in there and self.takes(number, day):
                    end = (leg[1], day + self.takes(number, day))
                    starts = there[leg[0], day] + ((day, number),)
                    further[end] = min(further.get(end, starts), starts)
            for place in range(self.count):
                if (place, day) in there and self.stays(place, day):
                    starts = there[place, day]
                    there[place, day + 1] = min(there.get((place, day + 1), starts), starts)
        return further

    def check(self, x, t, starts):
        for i, (day, number) in enumerate(starts):
            right = number < len(self.legs) and self.legs[number][0] == x and day >= t and self.takes(number, day)
            if not right or not all([self.stays(x, waited) for waited in range(t, day)]):
                return [0, i]
            x = self.legs[number][1]
            t = day + self.takes(number, day)
        return [1, x, t]


def stretches(days):
    """Each stretch of these days: a first day is one without a day before it, a last one without a day behind it."""
    firsts = [day for day in days if day - 1 not in days]
    lasts = [day for day in days if day + 1 not in days]
    return [len(firsts)] + [day for pair in zip(firsts, lasts, strict=True) for day in pair]
