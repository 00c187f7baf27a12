"""The lines of a land's text, and how each of them is read."""

from seasonland.signs import BLANK, COLON, COMMA, DASH, HASH, LINE_END
from seasonland.signs import are_plain, is_name, number_told, parted

LAST_DAY = 400
MOST_NOTE_SIGNS = 60
MOST_WINDOWS = 6
MOST_DAYS_UNDER_WAY = 30

# The kinds of lines are the signs that these lines begin with; an empty line is a note too.
NOTE = 35
BOTH_WAYS = 66
ONE_WAY = 76
NO_STAY = 78
PLACE = 80


class Line:
    """A line as it was written, and what it tells.

    Names are tuples of bytes; a window is (first day, last day, days under way);
    a stretch is (first day, last day), and None but in a line that tells where one can't stay.
    """

    def __init__(self, signs, kind, names, windows, stretch):
        self.signs = signs
        self.kind = kind
        self.names = names
        self.windows = windows
        self.stretch = stretch


def lines_parted(text):
    """The signs of each line of a text."""
    pieces = parted(text, LINE_END)
    # What is behind the last line end is a line only if something is there.
    if not pieces[-1]:
        pieces.pop()
    return pieces


def read_line(signs):
    """The line that these signs are, or None if they aren't a line as told."""
    if is_note(signs):
        return Line(signs, NOTE, [], [], None)
    # No name, stretch or window has a blank in it, so each blank parts two of them.
    fields = parted(signs, BLANK)
    if fields[0] == [PLACE]:
        return read_place_line(signs, fields)
    if fields[0] == [ONE_WAY] or fields[0] == [BOTH_WAYS]:
        return read_leg_line(signs, fields)
    if fields[0] == [NO_STAY]:
        return read_no_stay_line(signs, fields)
    return None


def is_note(signs):
    """Whether these signs are a note: nothing, or a # with what follows."""
    if not signs:
        return True
    return signs[0] == HASH and len(signs) <= MOST_NOTE_SIGNS and are_plain(signs)


def read_place_line(signs, fields):
    """The line P, name; or None."""
    if len(fields) != 2 or not is_name(fields[1]):
        return None
    return Line(signs, PLACE, [tuple(fields[1])], [], None)


def read_leg_line(signs, fields):
    """The line L or B, name, another name, windows; or None."""
    if len(fields) != 4 or not is_name(fields[1]) or not is_name(fields[2]):
        return None
    if fields[1] == fields[2]:
        return None
    windows = read_windows(fields[3])
    if windows is None:
        return None
    return Line(signs, signs[0], [tuple(fields[1]), tuple(fields[2])], windows, None)


def read_no_stay_line(signs, fields):
    """The line N, name, stretch; or None."""
    if len(fields) != 3 or not is_name(fields[1]):
        return None
    stretch = read_stretch(fields[2])
    if stretch is None:
        return None
    return Line(signs, NO_STAY, [tuple(fields[1])], [], stretch)


def read_windows(signs):
    """The list of windows that these signs tell, or None."""
    pieces = parted(signs, COMMA)
    if len(pieces) > MOST_WINDOWS:
        return None
    windows = []
    for piece in pieces:
        window = read_window(piece)
        if window is None:
            return None
        windows.append(window)
    return windows


def read_window(signs):
    """The window (first day, last day, days under way) that these signs tell, or None."""
    halves = parted(signs, COLON)
    if len(halves) != 2:
        return None
    stretch = read_stretch(halves[0])
    under_way = number_told(halves[1])
    if stretch is None or under_way is None:
        return None
    if under_way < 1 or under_way > MOST_DAYS_UNDER_WAY:
        return None
    return (stretch[0], stretch[1], under_way)


def read_stretch(signs):
    """The stretch (first day, last day) that these signs tell, or None."""
    halves = parted(signs, DASH)
    if len(halves) != 2:
        return None
    first = number_told(halves[0])
    last = number_told(halves[1])
    if first is None or last is None:
        return None
    if first > last or last > LAST_DAY:
        return None
    return (first, last)
