"""The desk: calls come in as one list of numbers, their answers go out as another."""

from seasonland.edits import Sheet
from seasonland.land import MOST_LINES, arrival, is_too_much, land_told, legs_told, place_names
from seasonland.lines import LAST_DAY, lines_parted, read_line
from seasonland.signs import LINE_END, are_bytes
from seasonland.ways import day_behind_start, days_behind_stay, days_in_time, days_there, stretches, way_to

MOST_TEXT_BYTES = 2000
MOST_LINE_BYTES = 200
MOST_LEG_NUMBER = 100
MOST_STARTS = 30
MOST_START_NUMBER = 400
MOST_STAY = 100

OUT_OF_RANGE = -1
NOT_A_LINE = -2
NOT_THERE = -4
TOO_MUCH = -5
NO_DAY = -9
# Less the number of the line, counted from 1.
WRONG_LINE = -100


def call_text(sheet, numbers, row):
    """Make a text's lines the lines."""
    if not are_bytes(row, MOST_TEXT_BYTES):
        return [OUT_OF_RANGE]
    lines = []
    for signs in lines_parted(row):
        line = read_line(signs)
        if line is None:
            return [WRONG_LINE - len(lines) - 1]
        lines.append(line)
    return change_if_fitting(sheet, lines)


def call_put(sheet, numbers, row):
    """Put a line ahead of line k."""
    k = numbers[0]
    if k < 0 or k > len(sheet.lines) or not are_bytes(row, MOST_LINE_BYTES):
        return [OUT_OF_RANGE]
    line = read_line(row)
    if line is None:
        return [NOT_A_LINE]
    return change_if_fitting(sheet, sheet.lines[:k] + [line] + sheet.lines[k:])


def change_if_fitting(sheet, lines):
    """Make these the lines, unless they are too many or have too many places."""
    if is_too_much(lines):
        return [TOO_MUCH]
    sheet.change(lines)
    return [len(sheet.lines)]


def call_cut(sheet, numbers, row):
    """Take line k away."""
    k = numbers[0]
    if k < 0 or k > MOST_LINES:
        return [OUT_OF_RANGE]
    if k >= len(sheet.lines):
        return [NOT_THERE]
    sheet.change(sheet.lines[:k] + sheet.lines[k + 1:])
    return [len(sheet.lines)]


def call_undo(sheet, numbers, row):
    """Undo the last change."""
    if not sheet.earlier:
        return [NOT_THERE]
    sheet.undo()
    return [len(sheet.lines)]


def call_redo(sheet, numbers, row):
    """Do again what was undone last."""
    if not sheet.undone:
        return [NOT_THERE]
    sheet.redo()
    return [len(sheet.lines)]


def call_print(sheet, numbers, row):
    """Tell the lines, each with a line end behind it."""
    printed = []
    for line in sheet.lines:
        printed.extend(line.signs)
        printed.append(LINE_END)
    return [len(printed)] + printed


def call_places(sheet, numbers, row):
    """Tell the places' names."""
    names = place_names(sheet.lines)
    answer = [len(names)]
    for name in names:
        answer.append(len(name))
        answer.extend(name)
    return answer


def call_legs(sheet, numbers, row):
    """Tell all legs, without the days of their windows."""
    legs = legs_told(sheet.lines)
    answer = [len(legs)]
    for leg in legs:
        answer.extend(leg_numbers(leg))
    return answer


def call_leg(sheet, numbers, row):
    """Tell leg i with its windows."""
    i = numbers[0]
    if i < 0 or i > MOST_LEG_NUMBER:
        return [OUT_OF_RANGE]
    legs = legs_told(sheet.lines)
    if i >= len(legs):
        return [NOT_THERE]
    answer = leg_numbers(legs[i])
    for window in legs[i].windows:
        answer.extend(window)
    return answer


def leg_numbers(leg):
    """Where a leg begins, where it ends, how many windows it has."""
    return [leg.begin, leg.end, len(leg.windows)]


def are_days(numbers):
    """Whether each of these is a day."""
    return all([0 <= number <= LAST_DAY for number in numbers])


def are_places(land, numbers):
    """Whether each of these is a place's number."""
    return all([0 <= number < len(land.stays) for number in numbers])


def days_there_asked(land, numbers):
    """For x, t, y: the days on which one can be at y; None if one of the three is out of its range."""
    x = numbers[0]
    t = numbers[1]
    y = numbers[2]
    if not are_places(land, [x, y]) or not are_days([t]):
        return None
    return days_there(land, x, [t], y)


def call_when(sheet, numbers, row):
    """Tell the first day on which one can be at y."""
    days = days_there_asked(land_told(sheet.lines), numbers)
    if days is None:
        return [OUT_OF_RANGE]
    if not days:
        return [NO_DAY]
    return [days[0]]


def call_days(sheet, numbers, row):
    """Tell all days on which one can be at y."""
    return stretches_answered(days_there_asked(land_told(sheet.lines), numbers))


def stretches_answered(days):
    """How many stretches these days are, then the first and the last day of each; a refusal if they are None."""
    if days is None:
        return [OUT_OF_RANGE]
    ends = stretches(days)
    return [len(ends) // 2] + ends


def days_in_time_asked(land, numbers):
    """For x, y, last: the days from which one gets to y in time; None if one of the three is out of its range."""
    x = numbers[0]
    y = numbers[1]
    last = numbers[2]
    if not are_places(land, [x, y]) or not are_days([last]):
        return None
    return days_in_time(land, x, y, last)


def call_latest(sheet, numbers, row):
    """Tell the last day from which one gets to y in time."""
    days = days_in_time_asked(land_told(sheet.lines), numbers)
    if days is None:
        return [OUT_OF_RANGE]
    if not days:
        return [NO_DAY]
    return [days[-1]]


def call_safe(sheet, numbers, row):
    """Tell all days from which one gets to y in time."""
    return stretches_answered(days_in_time_asked(land_told(sheet.lines), numbers))


def call_way(sheet, numbers, row):
    """Tell the first day on which one can be at y, and the starts that bring one there."""
    land = land_told(sheet.lines)
    days = days_there_asked(land, numbers)
    if days is None:
        return [OUT_OF_RANGE]
    if not days:
        return [NO_DAY]
    starts = way_to(land, numbers[0], numbers[1], numbers[2], days[0])
    answer = [days[0], len(starts)]
    for start in starts:
        answer.extend(start)
    return answer


def call_check(sheet, numbers, row):
    """Tell where and when one is behind these starts, or which of them is the first that can't be made."""
    land = land_told(sheet.lines)
    # One is at x on day t first, then behind one start after another.
    place = numbers[0]
    day = numbers[1]
    if not are_places(land, [place]) or not are_days([day]) or not are_starts(row):
        return [OUT_OF_RANGE]
    for at in range(0, len(row), 2):
        arrived = day_behind_start(land, place, day, row[at], row[at + 1])
        if arrived is None:
            return [0, at // 2]
        place = land.legs[row[at + 1]].end
        day = arrived
    return [1, place, day]


def are_starts(row):
    """Whether these are starts, two numbers each; their legs needn't be there."""
    if len(row) % 2 != 0 or len(row) // 2 > MOST_STARTS:
        return False
    return all([0 <= number <= MOST_START_NUMBER for number in row])


def call_around(sheet, numbers, row):
    """Tell the first day on which one can be back at x, who goes to y and stays there for some days."""
    land = land_told(sheet.lines)
    x = numbers[0]
    t = numbers[1]
    y = numbers[2]
    stay = numbers[3]
    last = numbers[4]
    if not are_places(land, [x, y]) or not are_days([t, last]) or stay < 0 or stay > MOST_STAY:
        return [OUT_OF_RANGE]
    leaving = days_behind_stay(land, y, days_there(land, x, [t], y), stay)
    back = days_there(land, y, leaving, x)
    if not back or back[0] > last:
        return [NO_DAY]
    return [back[0]]


def call_open_legs(sheet, numbers, row):
    """Tell the legs that are open on day d."""
    d = numbers[0]
    if not are_days([d]):
        return [OUT_OF_RANGE]
    found = [i for i, leg in enumerate(legs_told(sheet.lines)) if arrival(leg, d) is not None]
    return [len(found)] + found


def call_stay(sheet, numbers, row):
    """Tell whether one can stay at x on day d."""
    land = land_told(sheet.lines)
    x = numbers[0]
    d = numbers[1]
    if not are_places(land, [x]) or not are_days([d]):
        return [OUT_OF_RANGE]
    if land.stays[x][d]:
        return [1]
    return [0]


# For each call: how many whole numbers it has, whether a row follows them, what answers it.
CALLS = {
    0: (0, True, call_text),
    1: (1, True, call_put),
    2: (1, False, call_cut),
    3: (0, False, call_undo),
    4: (0, False, call_redo),
    5: (0, False, call_print),
    6: (0, False, call_places),
    7: (0, False, call_legs),
    8: (1, False, call_leg),
    9: (3, False, call_when),
    10: (3, False, call_days),
    11: (3, False, call_latest),
    12: (3, False, call_safe),
    13: (3, False, call_way),
    14: (2, True, call_check),
    15: (5, False, call_around),
    16: (1, False, call_open_legs),
    17: (2, False, call_stay),
}


def answers(calls):
    """For each call on a new sheet, in order: how many numbers are answered, then these."""
    sheet = Sheet()
    told = []
    at = 0
    while at < len(calls):
        form = CALLS[calls[at]]
        at += 1
        numbers = calls[at:at + form[0]]
        at += form[0]
        row = []
        if form[1]:
            row = calls[at + 1:at + 1 + calls[at]]
            at += 1 + calls[at]
        call = form[2]
        answer = call(sheet, numbers, row)
        told.append(len(answer))
        told.extend(answer)
    return told
