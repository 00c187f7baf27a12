"""The land of some lines: its places, its legs, and where one can stay."""

from seasonland.lines import BOTH_WAYS, LAST_DAY, NO_STAY, ONE_WAY, PLACE

MOST_LINES = 40
MOST_PLACES = 12


class Leg:
    """A leg between two places, which are told by their numbers."""

    def __init__(self, begin, end, windows):
        self.begin = begin
        self.end = end
        self.windows = windows


class Land:
    """All legs, and for each place, for each day, whether one can stay there."""

    def __init__(self, legs, stays):
        self.legs = legs
        self.stays = stays

    def can_stay(self, place, first, behind):
        """Whether one can stay at a place on each day from the first up to the one before that behind them."""
        return all(self.stays[place][first:behind])


def land_told(lines):
    """The land that these lines tell."""
    return Land(legs_told(lines), stays_told(lines))


def place_names(lines):
    """The names of the places; where a name stands here is its place's number."""
    names = []
    for line in lines:
        if line.kind == PLACE and line.names[0] not in names:
            names.append(line.names[0])
    return names


def is_too_much(lines):
    """Whether these are more lines, or have more places, than a land may have."""
    return len(lines) > MOST_LINES or len(place_names(lines)) > MOST_PLACES


def legs_told(lines):
    """The legs; where a leg stands here is its number."""
    # A line may name places that only a later line tells, so all places are found first.
    names = place_names(lines)
    legs = []
    for line in lines:
        if line.kind == ONE_WAY or line.kind == BOTH_WAYS:
            legs.extend(legs_of_line(line, names))
    return legs


def legs_of_line(line, names):
    """The legs of one L or B line: none if one of its names is no place."""
    if line.names[0] not in names or line.names[1] not in names:
        return []
    first = names.index(line.names[0])
    second = names.index(line.names[1])
    legs = [Leg(first, second, line.windows)]
    if line.kind == BOTH_WAYS:
        legs.append(Leg(second, first, line.windows))
    return legs


def arrival(leg, day):
    """The day on which one is at a leg's end, who starts on this day; None if the leg isn't open then."""
    for window in leg.windows:
        if window[0] <= day <= window[1]:
            return day + window[2]
    return None


def stays_told(lines):
    """For each place, for each day, whether one can stay there."""
    names = place_names(lines)
    stays = [[True] * (LAST_DAY + 1) for name in names]
    for line in lines:
        if line.kind == NO_STAY and line.names[0] in names:
            place = names.index(line.names[0])
            for day in range(line.stretch[0], line.stretch[1] + 1):
                stays[place][day] = False
    return stays
