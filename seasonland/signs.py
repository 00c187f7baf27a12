"""The signs that a land's text is made of: bytes, plain signs, names and numbers."""

LINE_END = 10
BLANK = 32
HASH = 35
COMMA = 44
DASH = 45
ZERO = 48
NINE = 57
COLON = 58
CAPITAL_A = 65
CAPITAL_Z = 90
LAST_PLAIN = 126
LAST_BYTE = 255

MOST_NAME_SIGNS = 6
MOST_DIGITS = 3


def are_bytes(signs, most):
    """Whether these are at most so many numbers, each of them a byte."""
    if len(signs) > most:
        return False
    return all([0 <= sign <= LAST_BYTE for sign in signs])


def are_plain(signs):
    """Whether each of these is a plain sign."""
    return all([BLANK <= sign <= LAST_PLAIN for sign in signs])


def is_digit(sign):
    """Whether this is one of 0 to 9."""
    return ZERO <= sign <= NINE


def is_capital(sign):
    """Whether this is one of A to Z."""
    return CAPITAL_A <= sign <= CAPITAL_Z


def is_name(signs):
    """Whether these signs are a name."""
    if len(signs) < 1 or len(signs) > MOST_NAME_SIGNS:
        return False
    if not is_capital(signs[0]):
        return False
    return all([is_capital(sign) or is_digit(sign) for sign in signs])


def number_told(signs):
    """The number that these signs tell, or None if they are no number."""
    if len(signs) < 1 or len(signs) > MOST_DIGITS:
        return None
    if not all([is_digit(sign) for sign in signs]):
        return None
    if signs[0] == ZERO and len(signs) > 1:
        return None
    number = 0
    for sign in signs:
        number = number * 10 + sign - ZERO
    return number


def parted(signs, mark):
    """The pieces between the marks: one more than there are marks, empty ones among them."""
    pieces = []
    piece = []
    for sign in signs:
        if sign == mark:
            pieces.append(piece)
            piece = []
        else:
            piece.append(sign)
    pieces.append(piece)
    return pieces
