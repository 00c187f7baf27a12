"""What the tests share: how calls are written, and how their answers are taken apart."""

from seasonland.desk import answers

FAR = 10 ** 18

UNDO = [3]
REDO = [4]
PRINT = [5]
PLACES = [6]
LEGS = [7]


def signs(written):
    """A text's signs as a list of numbers; a list stays as it is."""
    if isinstance(written, str):
        return list(written.encode("latin-1"))
    return list(written)


def text(written):
    row = signs(written)
    return [0, len(row)] + row


def put(k, written):
    row = signs(written)
    return [1, k, len(row)] + row


def cut(k):
    return [2, k]


def leg(i):
    return [8, i]


def when(x, t, y):
    return [9, x, t, y]


def days(x, t, y):
    return [10, x, t, y]


def latest(x, y, last_day):
    return [11, x, y, last_day]


def safe(x, y, last_day):
    return [12, x, y, last_day]


def way(x, t, y):
    return [13, x, t, y]


def check(x, t, starts):
    return [14, x, t, len(starts)] + list(starts)


def around(x, t, y, stays, last_day):
    return [15, x, t, y, stays, last_day]


def open_legs(d):
    return [16, d]


def stay(x, d):
    return [17, x, d]


def taken_apart(told):
    """The answers, one list each."""
    parts = []
    at = 0
    while at < len(told):
        count = told[at]
        part = told[at + 1:at + 1 + count]
        if count < 1 or len(part) != count:
            raise AssertionError(f"a count is off at {at}: {told}")
        parts.append(part)
        at += 1 + count
    return parts


def ask(*calls):
    """The answers to these calls, one list each."""
    parts = taken_apart(answers([number for call in calls for number in call]))
    if len(parts) != len(calls):
        raise AssertionError(f"{len(calls)} calls, {len(parts)} answers")
    return parts


def last(*calls):
    """The answer to the last of these calls."""
    return ask(*calls)[-1]


def printed(*calls):
    """The lines, as one text, behind these calls."""
    answer = last(*calls, PRINT)
    if answer[0] != len(answer) - 1:
        raise AssertionError(f"print counts {answer[0]} of {len(answer) - 1} bytes")
    return bytes(answer[1:]).decode("latin-1")


def rows(*lines):
    """A text of these lines, each with a line end."""
    return "".join([line + "\n" for line in lines])


def places(count):
    """So many lines with a place each."""
    return [f"P A{i}" for i in range(count)]
