"""What is asked: lists of questions, and of pairs of a machine and a condition on what it makes."""

from foldlook.conditions import is_condition_on
from foldlook.errors import BadFilters, BadLooks, BadQuestions
from foldlook.machines import Machine
from foldlook.serving import are_mixed

MOST_QUESTIONS = 3
MOST_FILTERS = 4
MOST_LOOKS = 3


def is_listed(most, thing):
    """Whether something is a list or tuple of one to so many items."""
    return isinstance(thing, (list, tuple)) and 1 <= len(thing) <= most


def is_asked(letters, thing):
    """Whether something is a pair of a machine with some letters and a condition on what it makes."""
    if not isinstance(thing, tuple) or len(thing) != 2:
        return False
    machine, condition = thing
    return isinstance(machine, Machine) and machine.letters == letters and is_condition_on(letters, condition)


def is_mixed_pair(index, asked, thing):
    """Whether something is a pair of values as in a Mixed for an index and a filter."""
    if not isinstance(thing, tuple) or len(thing) != 2:
        return False
    return are_mixed(index, asked[0], asked[1], thing[0], thing[1])


def check_questions(letters, questions):
    """Raise BadQuestions for what is not questions on texts of the letters."""
    if not is_listed(MOST_QUESTIONS, questions):
        raise BadQuestions(None)
    for index, question in enumerate(questions):
        if not is_condition_on(letters, question):
            raise BadQuestions(index)


def check_filters(letters, filters):
    """Raise BadFilters for what is not filters with the letters."""
    if not is_listed(MOST_FILTERS, filters):
        raise BadFilters(None)
    for index, asked in enumerate(filters):
        if not is_asked(letters, asked):
            raise BadFilters(index)


def check_looks(letters, looks):
    """Raise BadLooks for what is not looks with the letters."""
    if not is_listed(MOST_LOOKS, looks):
        raise BadLooks(None)
    for index, asked in enumerate(looks):
        if not is_asked(letters, asked):
            raise BadLooks(index)
