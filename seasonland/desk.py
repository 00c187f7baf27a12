"""The desk: calls come in as one list of numbers, their answers go out as another."""

from seasonland.edits import Sheet
from seasonland.land import MOST_LINES, is_too_much, legs_told, place_names
from seasonland.lines import lines_parted, read_line
from seasonland.signs import LINE_END, are_bytes

MOST_TEXT_BYTES = 2000
MOST_LINE_BYTES = 200
MOST_LEG_NUMBER = 100

OUT_OF_RANGE = -1
NOT_A_LINE = -2
NOT_THERE = -4
TOO_MUCH = -5
# Less the number of the line, counted from 1.
WRONG_LINE = -100


def call_text(sheet, numbers, row):
    """Make a text's lines the lines."""
    if not are_bytes(row, MOST_TEXT_BYTES):
        return [OUT_OF_RANGE]
    lines = []
    for signs in lines_parted(row):
        line = read_line(signs)
        if line is None:
            return [WRONG_LINE - len(lines) - 1]
        lines.append(line)
    return change_if_fitting(sheet, lines)


def call_put(sheet, numbers, row):
    """Put a line ahead of line k."""
    k = numbers[0]
    if k < 0 or k > len(sheet.lines) or not are_bytes(row, MOST_LINE_BYTES):
        return [OUT_OF_RANGE]
    line = read_line(row)
    if line is None:
        return [NOT_A_LINE]
    return change_if_fitting(sheet, sheet.lines[:k] + [line] + sheet.lines[k:])


def change_if_fitting(sheet, lines):
    """Make these the lines, unless they are too many or have too many places."""
    if is_too_much(lines):
        return [TOO_MUCH]
    sheet.change(lines)
    return [len(sheet.lines)]


def call_cut(sheet, numbers, row):
    """Take line k away."""
    k = numbers[0]
    if k < 0 or k > MOST_LINES:
        return [OUT_OF_RANGE]
    if k >= len(sheet.lines):
        return [NOT_THERE]
    sheet.change(sheet.lines[:k] + sheet.lines[k + 1:])
    return [len(sheet.lines)]


def call_undo(sheet, numbers, row):
    """Undo the last change."""
    if not sheet.earlier:
        return [NOT_THERE]
    sheet.undo()
    return [len(sheet.lines)]


def call_redo(sheet, numbers, row):
    """Do again what was undone last."""
    if not sheet.undone:
        return [NOT_THERE]
    sheet.redo()
    return [len(sheet.lines)]


def call_print(sheet, numbers, row):
    """Tell the lines, each with a line end behind it."""
    printed = []
    for line in sheet.lines:
        printed.extend(line.signs)
        printed.append(LINE_END)
    return [len(printed)] + printed


def call_places(sheet, numbers, row):
    """Tell the places' names."""
    names = place_names(sheet.lines)
    answer = [len(names)]
    for name in names:
        answer.append(len(name))
        answer.extend(name)
    return answer


def call_legs(sheet, numbers, row):
    """Tell all legs, without the days of their windows."""
    legs = legs_told(sheet.lines)
    answer = [len(legs)]
    for leg in legs:
        answer.extend(leg_numbers(leg))
    return answer


def call_leg(sheet, numbers, row):
    """Tell leg i with its windows."""
    i = numbers[0]
    if i < 0 or i > MOST_LEG_NUMBER:
        return [OUT_OF_RANGE]
    legs = legs_told(sheet.lines)
    if i >= len(legs):
        return [NOT_THERE]
    answer = leg_numbers(legs[i])
    for window in legs[i].windows:
        answer.extend(window)
    return answer


def leg_numbers(leg):
    """Where a leg begins, where it ends, how many windows it has."""
    return [leg.begin, leg.end, len(leg.windows)]


# For each call: how many whole numbers it has, whether a row follows them, what answers it.
CALLS = {
    0: (0, True, call_text),
    1: (1, True, call_put),
    2: (1, False, call_cut),
    3: (0, False, call_undo),
    4: (0, False, call_redo),
    5: (0, False, call_print),
    6: (0, False, call_places),
    7: (0, False, call_legs),
    8: (1, False, call_leg),
}


def answers(calls):
    """For each call on a new sheet, in order: how many numbers are answered, then these."""
    sheet = Sheet()
    told = []
    at = 0
    while at < len(calls):
        form = CALLS[calls[at]]
        at += 1
        numbers = calls[at:at + form[0]]
        at += form[0]
        row = []
        if form[1]:
            row = calls[at + 1:at + 1 + calls[at]]
            at += 1 + calls[at]
        call = form[2]
        answer = call(sheet, numbers, row)
        told.append(len(answer))
        told.extend(answer)
    return told
