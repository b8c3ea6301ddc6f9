"""Looks: whether a question to an index finds just the rows of a filter, more, or misses one."""

from foldlook.checks import is_value
from foldlook.conditions import check_condition, meets
from foldlook.errors import BadValue
from foldlook.machines import check_machine, check_machines
from foldlook.places import first_place, is_closed, is_met_at, is_place, place_behind, reach

MOST_SPOTS = 400


class Exact:
    """The question finds just the rows that the filter lets by: spots show it."""

    def __init__(self, spots):
        self.spots = list(spots)

    def __eq__(self, other):
        return isinstance(other, Exact) and self.spots == other.spots

    def shows(self, index, question, machine, condition):
        """Whether the spots show it."""
        look = checked_look(index, question, machine, condition)
        return look.are_closed(self.spots) and all([look.finds(spot) == look.lets_by(spot) for spot in self.spots])


class More:
    """The question finds all rows that the filter lets by, as spots show, and others, such as that of a value."""

    def __init__(self, spots, value):
        self.spots = list(spots)
        self.value = value

    def __eq__(self, other):
        return isinstance(other, More) and self.spots == other.spots and self.value == other.value

    def shows(self, index, question, machine, condition):
        """Whether the spots and the value show it."""
        look = checked_look(index, question, machine, condition)
        if not look.are_closed(self.spots) or not is_value(index.letters, self.value):
            return False
        if not all([look.finds(spot) or not look.lets_by(spot) for spot in self.spots]):
            return False
        return meets(index, question, self.value) and not meets(machine, condition, self.value)


class Misses:
    """The filter lets a value by that the question does not find."""

    def __init__(self, value):
        self.value = value

    def __eq__(self, other):
        return isinstance(other, Misses) and self.value == other.value

    def shows(self, index, question, machine, condition):
        """Whether the value shows it."""
        checked_look(index, question, machine, condition)
        if not is_value(index.letters, self.value):
            return False
        return meets(machine, condition, self.value) and not meets(index, question, self.value)


class Look:
    """A question to an index, and a filter: where letters lead from spot to spot."""

    def __init__(self, index, question, machine, condition):
        self.index = index
        self.question = question
        self.machine = machine
        self.condition = condition

    def first(self):
        """The first spot."""
        return first_place(self.question) + first_place(self.condition)

    def behind(self, spot, letter):
        """The spot to which a letter leads."""
        key = place_behind(self.index, self.question, spot[:2], letter)
        return key + place_behind(self.machine, self.condition, spot[2:], letter)

    def all_behind(self, spot):
        """Pairs of each letter and the spot to which it leads."""
        return [(letter, self.behind(spot, letter)) for letter in self.index.letters]

    def finds(self, spot):
        """Whether the question is met in a spot."""
        return is_met_at(self.question, spot[:2])

    def lets_by(self, spot):
        """Whether the condition of the filter is met in a spot."""
        return is_met_at(self.condition, spot[2:])

    def is_spot(self, thing):
        """Whether something is a spot, perhaps one that does not come about."""
        if not isinstance(thing, tuple):
            return False
        return is_place(self.index, self.question, thing[:2]) and is_place(self.machine, self.condition, thing[2:])

    def are_closed(self, spots):
        """Whether a list has spots only, the first one, and with each all to which letters lead."""
        if not all([self.is_spot(spot) for spot in spots]):
            return False
        return is_closed(spots, self.first(), lambda here: [there for _, there in self.all_behind(here)])

    def about(self):
        """A dict from all spots that come about to a shortest value that leads to each."""
        return reach(self.first(), lambda here: self.all_behind(here), MOST_SPOTS)


def checked_look(index, question, machine, condition):
    """The Look of these arguments, or the error that is due for one of them."""
    check_machines(index, machine)
    check_condition(index.letters, question)
    check_condition(index.letters, condition)
    return Look(index, question, machine, condition)


def judge(index, question, machine, condition):
    """An Exact, a More or a Misses: what a question to an index finds of the rows of a filter."""
    look = checked_look(index, question, machine, condition)
    found = look.about()
    missed, more = shortest_missed(look, found), shortest_more(look, found)
    if missed is not None:
        return Misses(missed)
    if more is not None:
        return More(list(found), more)
    return Exact(list(found))


def shortest_unlike(index, question, machine, condition):
    """The fewest letters of a value that is let by but not found, and of one that is found but not let by."""
    look = checked_look(index, question, machine, condition)
    found = look.about()
    return (letters_of(shortest_missed(look, found)), letters_of(shortest_more(look, found)))


def shortest_missed(look, found):
    """A shortest value that the filter lets by, but the question does not find; None if there is none."""
    for spot in found:
        if look.lets_by(spot) and not look.finds(spot):
            return found[spot]
    return None


def shortest_more(look, found):
    """A shortest value that the question finds, but the filter does not let by; None if there is none."""
    for spot in found:
        if look.finds(spot) and not look.lets_by(spot):
            return found[spot]
    return None


def letters_of(value):
    """How many letters a value has; None for no value."""
    return None if value is None else len(value)


def found_in(index, question, values):
    """Those of some values that a question finds, in their order."""
    check_machine(index)
    check_condition(index.letters, question)
    if not isinstance(values, (list, tuple)) or not all([is_value(index.letters, value) for value in values]):
        raise BadValue("not a list or tuple of values")
    return [value for value in values if meets(index, question, value)]
