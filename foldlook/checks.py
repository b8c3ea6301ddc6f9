"""What integers, letters and values are, and the errors for what is none."""

from foldlook.errors import BadLetters, BadSize, BadValue

SIGNS = "ABCDEFGHIJKLMNOPQRSTUVWXYZ_abcdefghijklmnopqrstuvwxyz"
MOST_SIZE = 60


def is_whole(thing):
    """Whether something is an integer; True and False are none."""
    return isinstance(thing, int) and not isinstance(thing, bool)


def is_whole_from(low, high, thing):
    """Whether something is an integer from one to another one, both included."""
    return is_whole(thing) and low <= thing <= high


def is_letters(thing):
    """Whether something is a text of two to four different signs."""
    if not isinstance(thing, str) or not 2 <= len(thing) <= 4:
        return False
    return all([sign in SIGNS and thing.count(sign) == 1 for sign in thing])


def is_value(letters, thing):
    """Whether something is a text of some letters, perhaps empty."""
    return isinstance(thing, str) and all([sign in letters for sign in thing])


def check_letters(letters):
    """Raise BadLetters for what is not letters."""
    if not is_letters(letters):
        raise BadLetters("letters are a text of two to four different signs of A to Z, _ and a to z")


def check_value(letters, value):
    """Raise BadValue for what is not a value of the letters."""
    if not is_value(letters, value):
        raise BadValue("a value is a text of the letters")


def check_size(size):
    """Raise BadSize for what is not a size."""
    if not is_whole_from(0, MOST_SIZE, size):
        raise BadSize(f"a size is an integer from 0 to {MOST_SIZE}")
