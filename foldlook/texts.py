"""Texts: machines and conditions, written and read again."""

from foldlook.checks import check_letters, is_letters
from foldlook.conditions import check_condition, is_condition_on
from foldlook.errors import BadText
from foldlook.machines import MOST_STATES, Machine, check_machine

LETTERS = "letters"
STATE = "state"
NOTHING = "-"
DIGITS = "0123456789"


def machine_text(machine):
    """The text of a machine."""
    check_machine(machine)
    rows = [[STATE] + [f"{state}{written(out)}" for state, out in row] for row in machine.rows]
    return "".join([line_of(words) for words in [[LETTERS, machine.letters]] + rows])


def condition_text(letters, condition):
    """The text of a condition."""
    check_letters(letters)
    check_condition(letters, condition)
    return line_of([condition[0]] + [written(text) for text in condition[1:]])


def read_machine(text):
    """The machine of a text."""
    lines, rest = lines_of(text)
    letters = letters_in(lines)
    rows = []
    for at in range(1, len(lines)):
        row = row_in(letters, lines[at])
        if row is None or len(rows) == MOST_STATES:
            raise BadText(at)
        rows.append(row)
    if rows == [] or rest != "" or not all([state < len(rows) for turns in rows for state, _ in turns]):
        raise BadText(len(lines))
    return Machine(letters, tuple(rows))


def read_condition(letters, text):
    """The condition of a text."""
    check_letters(letters)
    lines, rest = lines_of(text)
    condition = None if lines == [] else condition_in(letters, lines[0])
    if condition is None:
        raise BadText(0)
    # A second line is wrong as such, and what follows the only line is told by the number of lines: both is 1.
    if len(lines) > 1 or rest != "":
        raise BadText(1)
    return condition


def written(text):
    """How a text stands in a line."""
    return NOTHING if text == "" else text


def unwritten(word):
    """The text that stands as a word in a line."""
    return "" if word == NOTHING else word


def line_of(words):
    """A line of some words."""
    return " ".join(words) + "\n"


def lines_of(text):
    """The lines of a text, without their line feeds, and what follows the last line feed."""
    if not isinstance(text, str):
        raise BadText(0)
    parts = text.split("\n")
    return parts[:-1], parts[-1]


def letters_in(lines):
    """The letters in the first one of some lines."""
    words = [] if lines == [] else lines[0].split(" ")
    if len(words) != 2 or words[0] != LETTERS or not is_letters(words[1]):
        raise BadText(0)
    return words[1]


def row_in(letters, line):
    """The row in a line; None if it is not that of a state."""
    words = line.split(" ")
    if words[0] != STATE or len(words) != len(letters) + 1:
        return None
    if not all([is_written_turn(letters, word) for word in words[1:]]):
        return None
    return tuple([(DIGITS.index(word[0]), unwritten(word[1])) for word in words[1:]])


def is_written_turn(letters, word):
    """Whether a word is a turn: a digit, and a letter or the sign for nothing."""
    return len(word) == 2 and word[0] in DIGITS and word[1] in letters + NOTHING


def condition_in(letters, line):
    """The condition in a line; None if it is not that of a condition."""
    words = line.split(" ")
    # The empty text is written, too, so that an empty word is never right.
    if "" in words:
        return None
    condition = (words[0],) + tuple([unwritten(word) for word in words[1:]])
    return condition if is_condition_on(letters, condition) else None
