"""Serving: whether an index can serve a filter, and whether its keys tell all that a machine makes."""

from foldlook.checks import is_value
from foldlook.conditions import check_filter, meets
from foldlook.legs import FilterLegs, MachineLegs
from foldlook.machines import check_machines
from foldlook.pairs import are_closed, moves, pairs_about
from foldlook.telling import are_told, blurred_values, told_pairs


class Served:
    """The filter can be served by the index: pairs show it."""

    def __init__(self, pairs):
        self.pairs = list(pairs)

    def __eq__(self, other):
        return isinstance(other, Served) and self.pairs == other.pairs

    def shows(self, index, machine, condition):
        """Whether the pairs show it."""
        check_filter(index, machine, condition)
        legs = FilterLegs(index, machine, condition)
        if not are_closed(legs, self.pairs):
            return False
        return all([legs.lets_by(one) == legs.lets_by(other) for one, other in self.pairs])


class Mixed:
    """The filter cannot be served: it lets the first one of two values with one key by, and not the other one."""

    def __init__(self, one, other):
        self.one = one
        self.other = other

    def __eq__(self, other):
        return isinstance(other, Mixed) and self.one == other.one and self.other == other.other

    def shows(self, index, machine, condition):
        """Whether the values show it."""
        check_filter(index, machine, condition)
        return are_mixed(index, machine, condition, self.one, self.other)


class Tells:
    """The keys of the index tell what the machine makes: pairs show it."""

    def __init__(self, pairs):
        self.pairs = list(pairs)

    def __eq__(self, other):
        return isinstance(other, Tells) and self.pairs == other.pairs

    def shows(self, index, machine):
        """Whether the pairs show it."""
        check_machines(index, machine)
        return are_told(MachineLegs(index, machine), self.pairs)


class Blurs:
    """The keys do not tell it: of two values with one key the machine does not make the same."""

    def __init__(self, one, other):
        self.one = one
        self.other = other

    def __eq__(self, other):
        return isinstance(other, Blurs) and self.one == other.one and self.other == other.other

    def shows(self, index, machine):
        """Whether the values show it."""
        check_machines(index, machine)
        if not has_one_key(index, self.one, self.other):
            return False
        return machine.made(self.one) != machine.made(self.other)


def has_one_key(index, one, other):
    """Whether something is two values with one key."""
    if not is_value(index.letters, one) or not is_value(index.letters, other):
        return False
    return index.made(one) == index.made(other)


def are_mixed(index, machine, condition, one, other):
    """Whether something is two values with one key, of which a filter lets by the first, but not the other one."""
    if not has_one_key(index, one, other):
        return False
    return meets(machine, condition, one) and not meets(machine, condition, other)


def serve(index, machine, condition):
    """A Served or a Mixed: whether a filter can be served by an index."""
    check_filter(index, machine, condition)
    legs = FilterLegs(index, machine, condition)
    found = pairs_about(legs, lambda here: moves(legs, here))
    mixed = mixed_values(legs, found)
    if mixed is None:
        return Served(list(found))
    return Mixed(mixed[0], mixed[1])


def mixed_values(legs, found):
    """Two values of the fewest letters with one key, of which just the first one is let by; None if there are none.

    found has the pairs that come about.
    """
    for one, other in found:
        if legs.lets_by(one) and not legs.lets_by(other):
            return found[(one, other)]
    return None


def can_serve(index, machine, condition):
    """Whether a filter can be served by an index."""
    return isinstance(serve(index, machine, condition), Served)


def least_mixed(index, machine, condition):
    """The least number of letters of both values of a Mixed together; None if the filter can be served."""
    found = serve(index, machine, condition)
    # serve gives values of the fewest letters.
    return None if isinstance(found, Served) else len(found.one) + len(found.other)


def tell(index, machine):
    """A Tells or a Blurs: whether the keys of an index tell what a machine makes."""
    check_machines(index, machine)
    legs = MachineLegs(index, machine)
    found = told_pairs(legs)
    blurred = blurred_values(legs, found)
    if blurred is None:
        return Tells(list(found))
    return Blurs(blurred[0], blurred[1])


def does_tell(index, machine):
    """Whether the keys of an index tell what a machine makes."""
    return isinstance(tell(index, machine), Tells)


def least_blurred(index, machine):
    """The least number of letters of both values of a Blurs together; None if the keys tell."""
    found = tell(index, machine)
    # tell gives values of the fewest letters.
    return None if isinstance(found, Tells) else len(found.one) + len(found.other)
