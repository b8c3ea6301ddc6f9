"""Cutting: how many letters an index must keep of each value so that it serves a filter."""

from foldlook.asked import is_mixed_pair
from foldlook.checks import is_whole_from
from foldlook.conditions import check_condition
from foldlook.machines import MOST_KEPT, check_machine, cut
from foldlook.serving import Served, serve


class Least:
    """The index cut to a number serves the filter, as pairs show, and cut to one letter less it does not: see mixed."""

    def __init__(self, number, pairs, mixed):
        self.number = number
        self.pairs = list(pairs)
        self.mixed = mixed

    def __eq__(self, other):
        return (
            isinstance(other, Least)
            and self.number == other.number
            and self.pairs == other.pairs
            and self.mixed == other.mixed
        )

    def shows(self, machine, condition):
        """Whether the number, the pairs and the values show it."""
        check_asked(machine, condition)
        if not is_whole_from(0, MOST_KEPT, self.number):
            return False
        if not Served(self.pairs).shows(cut(machine.letters, self.number), machine, condition):
            return False
        if self.number == 0:
            return self.mixed is None
        return are_mixed_if_cut(self.number - 1, machine, condition, self.mixed)


class NoLeast:
    """The index cut to the greatest number does not serve the filter, as two values show."""

    def __init__(self, mixed):
        self.mixed = mixed

    def __eq__(self, other):
        return isinstance(other, NoLeast) and self.mixed == other.mixed

    def shows(self, machine, condition):
        """Whether the values show it."""
        check_asked(machine, condition)
        return are_mixed_if_cut(MOST_KEPT, machine, condition, self.mixed)


def check_asked(machine, condition):
    """Raise BadMachine or BadCondition for what is not a filter."""
    check_machine(machine)
    check_condition(machine.letters, condition)


def are_mixed_if_cut(number, machine, condition, thing):
    """Whether something is a pair of values as in a Mixed for the index cut to a number."""
    return is_mixed_pair(cut(machine.letters, number), (machine, condition), thing)


def cut_for(machine, condition):
    """A Least or a NoLeast: to how many letters an index may be cut so that it serves a filter."""
    check_asked(machine, condition)
    mixed = None
    for number in range(MOST_KEPT + 1):
        found = serve(cut(machine.letters, number), machine, condition)
        if isinstance(found, Served):
            return Least(number, found.pairs, mixed)
        mixed = (found.one, found.other)
    return NoLeast(mixed)


def least_cut(machine, condition):
    """The number of a Least; None for a NoLeast."""
    found = cut_for(machine, condition)
    return found.number if isinstance(found, Least) else None
