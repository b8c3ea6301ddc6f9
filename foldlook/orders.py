"""Order: whether the keys of an index rise with what a machine makes."""

from foldlook.checks import is_value
from foldlook.conditions import BEHIND, next_beside
from foldlook.legs import MachineLegs
from foldlook.machines import check_machines, compare
from foldlook.places import reach
from foldlook.telling import are_told, blurred_values, told_pairs


class Rises:
    """The keys of the index rise with what the machine makes: pairs show it."""

    def __init__(self, pairs):
        self.pairs = list(pairs)

    def __eq__(self, other):
        return isinstance(other, Rises) and self.pairs == other.pairs

    def shows(self, index, machine):
        """Whether the pairs show it."""
        check_machines(index, machine)
        legs = MachineLegs(index, machine)
        if not are_told(legs, self.pairs):
            return False
        passing = passing_letters(machine)
        return all([crossing(legs, passing, pair) is None for pair in self.pairs])


class Crosses:
    """The keys do not rise: that of one does not come behind that of other, but what the machine makes of it does."""

    def __init__(self, one, other):
        self.one = one
        self.other = other

    def __eq__(self, other):
        return isinstance(other, Crosses) and self.one == other.one and self.other == other.other

    def shows(self, index, machine):
        """Whether the values show it."""
        check_machines(index, machine)
        if not is_value(index.letters, self.one) or not is_value(index.letters, self.other):
            return False
        if compare_made(index, self.one, self.other) == 1:
            return False
        return compare_made(machine, self.one, self.other) == 1


def order(index, machine):
    """A Rises or a Crosses: whether the keys of an index rise with what a machine makes."""
    check_machines(index, machine)
    legs = MachineLegs(index, machine)
    found = told_pairs(legs)
    crossed = crossed_values(legs, found)
    if crossed is None:
        return Rises(list(found))
    return Crosses(crossed[0], crossed[1])


def keeps_order(index, machine):
    """Whether the keys of an index rise with what a machine makes."""
    return isinstance(order(index, machine), Rises)


def compare_made(machine, one, other):
    """How what a machine makes of one value stands to what it makes of another one: -1, 0 or 1."""
    return compare(machine.letters, machine.made(one), machine.made(other))


def crossed_values(legs, found):
    """Two values that cross, the one that the machine puts behind ahead; None if there are none.

    found has the pairs that come about while the machine makes the same.
    """
    blurred = blurred_values(legs, found)
    if blurred is not None:
        one, other = blurred
        return (one, other) if compare_made(legs.machine, one, other) == 1 else (other, one)
    passing = passing_letters(legs.machine)
    for pair in found:
        ends = crossing(legs, passing, pair)
        if ends is not None:
            one, other = found[pair]
            return (one + ends[0], other + ends[1])
    return None


def crossing(legs, passing, pair):
    """What is read from both legs of a pair on so that the values cross; None if nothing does so.

    Only where the keys part does it matter: ahead of it the machine makes the same for both, and if one key begins
    with the other one, what is made of the one begins with what is made of the other.
    """
    one, other = pair
    for step in legs.steps(one):
        for beside in legs.steps(other):
            if is_ahead(legs.machine.letters, step.key, beside.key):
                read = passing[(one[1], step.letter, beside.out)]
                if read is not None:
                    return (read, beside.letter)
    return None


def is_ahead(letters, one, other):
    """Whether two keys of one letter at most are letters, of which one comes ahead of the other one."""
    return one != "" and other != "" and compare(letters, one, other) == -1


def passing_letters(machine):
    """The letters with which a machine makes, from a state on, what comes behind a bound.

    A dict from triples of a state, the first one of these letters, and a bound, a letter or nothing, to a text of the
    fewest such letters, None if there are none.
    """
    table = {}
    for state in range(len(machine)):
        for letter in machine.letters:
            for bound in ["", *machine.letters]:
                table[(state, letter, bound)] = letters_past(machine, state, letter, bound)
    return table


def letters_past(machine, state, letter, bound):
    """One item of the table of passing_letters."""
    first = bound_behind(machine, bound, (state, 0), letter)
    found = reach(first, lambda here: bounds_behind(machine, bound, here), None)
    for place in found:
        if place[1] == BEHIND:
            return letter + found[place]
    return None


def bounds_behind(machine, bound, place):
    """Pairs of each letter and where it leads to, as bound_behind tells it."""
    return [(letter, bound_behind(machine, bound, place, letter)) for letter in machine.letters]


def bound_behind(machine, bound, place, letter):
    """The state behind a letter, and how what is made stands to a bound then, as in a stand of "between"."""
    state, now = place
    state, made = machine.turn(state, letter)
    return (state, now if made == "" else next_beside(machine.letters, bound, now, made))
