"""What integers, letters and values are, and the errors for what is none."""

from foldlook.errors import BadLetters, BadValue

SIGNS = "ABCDEFGHIJKLMNOPQRSTUVWXYZ_abcdefghijklmnopqrstuvwxyz"


def is_whole(thing):
    """Whether something is an integer; True and False are none."""
    return isinstance(thing, int) and not isinstance(thing, bool)


def is_letters(thing):
    """Whether something is a text of two to four different signs."""
    if not isinstance(thing, str) or not 2 <= len(thing) <= 4:
        return False
    return all([sign in SIGNS and thing.count(sign) == 1 for sign in thing])


def is_value(letters, thing):
    """Whether something is a text of some letters, perhaps empty."""
    return isinstance(thing, str) and all([sign in letters for sign in thing])


def check_letters(letters):
    """Raise BadLetters for what is not letters."""
    if not is_letters(letters):
        raise BadLetters("letters are a text of two to four different signs of A to Z, _ and a to z")


def check_value(letters, value):
    """Raise BadValue for what is not a value of the letters."""
    if not is_value(letters, value):
        raise BadValue("a value is a text of the letters")
