"""Joining: whether several questions together find just the rows of a filter, go beyond them, or lack one."""

from foldlook.asked import check_looks
from foldlook.checks import is_value
from foldlook.conditions import check_condition, meets
from foldlook.errors import BadWay
from foldlook.looks import letters_of, shortest_missed, shortest_more
from foldlook.machines import check_machine
from foldlook.places import first_place, is_met_at, is_place, place_behind
from foldlook.spots import are_spots, spots_about

ALL = "all"
ANY = "any"


class Fits:
    """The questions find just the rows that the filter lets by: spots show it."""

    def __init__(self, spots):
        self.spots = list(spots)

    def __eq__(self, other):
        return isinstance(other, Fits) and self.spots == other.spots

    def shows(self, looks, way, machine, condition):
        """Whether the spots show it."""
        joint = checked_joint(looks, way, machine, condition)
        return are_spots(joint, self.spots) and all([joint.finds(spot) == joint.lets_by(spot) for spot in self.spots])


class Beyond:
    """The questions find all rows that the filter lets by, as spots show, and others, such as that of a value."""

    def __init__(self, spots, value):
        self.spots = list(spots)
        self.value = value

    def __eq__(self, other):
        return isinstance(other, Beyond) and self.spots == other.spots and self.value == other.value

    def shows(self, looks, way, machine, condition):
        """Whether the spots and the value show it."""
        joint = checked_joint(looks, way, machine, condition)
        if not are_spots(joint, self.spots) or not is_value(machine.letters, self.value):
            return False
        if not all([joint.finds(spot) or not joint.lets_by(spot) for spot in self.spots]):
            return False
        return joint.finds_value(self.value) and not meets(machine, condition, self.value)


class Lacks:
    """The filter lets a value by that is not found."""

    def __init__(self, value):
        self.value = value

    def __eq__(self, other):
        return isinstance(other, Lacks) and self.value == other.value

    def shows(self, looks, way, machine, condition):
        """Whether the value shows it."""
        joint = checked_joint(looks, way, machine, condition)
        if not is_value(machine.letters, self.value):
            return False
        return meets(machine, condition, self.value) and not joint.finds_value(self.value)


class Joint:
    """Looks that are put together in a way, and a filter: where letters lead from spot to spot."""

    def __init__(self, looks, way, machine, condition):
        self.looks = tuple(looks)
        self.way = way
        self.machine = machine
        self.condition = condition

    def first(self):
        """The first spot."""
        places = [first_place(question) for _, question in self.looks]
        return (tuple(places),) + first_place(self.condition)

    def behind(self, spot, letter):
        """The spot to which a letter leads."""
        places = []
        for (index, question), place in zip(self.looks, spot[0]):
            places.append(place_behind(index, question, place, letter))
        return (tuple(places),) + place_behind(self.machine, self.condition, spot[1:], letter)

    def all_behind(self, spot):
        """Pairs of each letter and the spot to which it leads."""
        return [(letter, self.behind(spot, letter)) for letter in self.machine.letters]

    def is_spot(self, thing):
        """Whether something is a spot, perhaps one that does not come about."""
        if not isinstance(thing, tuple) or len(thing) != 3:
            return False
        return self.are_places(thing[0]) and is_place(self.machine, self.condition, thing[1:])

    def are_places(self, thing):
        """Whether something is a tuple with a pair of a state and a stand for each look."""
        if not isinstance(thing, tuple) or len(thing) != len(self.looks):
            return False
        return all([is_place(index, question, place) for (index, question), place in zip(self.looks, thing)])

    def is_found(self, met):
        """Whether a row is found, if it is told for each question whether it finds it."""
        return all(met) if self.way == ALL else any(met)

    def finds(self, spot):
        """Whether it is found in a spot."""
        return self.is_found([is_met_at(question, place) for (_, question), place in zip(self.looks, spot[0])])

    def finds_value(self, value):
        """Whether the row of a value is found."""
        return self.is_found([meets(index, question, value) for index, question in self.looks])

    def lets_by(self, spot):
        """Whether the condition of the filter is met in a spot."""
        return is_met_at(self.condition, spot[1:])


def check_way(way):
    """Raise BadWay for what is not a way."""
    if not isinstance(way, str) or way not in (ALL, ANY):
        raise BadWay("a way is one of the words all and any")


def checked_joint(looks, way, machine, condition):
    """The Joint of these arguments, or the error that is due for one of them."""
    check_machine(machine)
    check_condition(machine.letters, condition)
    check_looks(machine.letters, looks)
    check_way(way)
    return Joint(looks, way, machine, condition)


def combine(looks, way, machine, condition):
    """A Fits, a Beyond or a Lacks: what several questions together find of the rows of a filter."""
    joint = checked_joint(looks, way, machine, condition)
    found = spots_about(joint)
    lacking, more = shortest_missed(joint, found), shortest_more(joint, found)
    if lacking is not None:
        return Lacks(lacking)
    if more is not None:
        return Beyond(list(found), more)
    return Fits(list(found))


def fits(looks, way, machine, condition):
    """Whether several questions together find just the rows of a filter."""
    return isinstance(combine(looks, way, machine, condition), Fits)


def shortest_apart(looks, way, machine, condition):
    """The fewest letters of a value that is let by but not found, and of one that is found but not let by."""
    joint = checked_joint(looks, way, machine, condition)
    found = spots_about(joint)
    return (letters_of(shortest_missed(joint, found)), letters_of(shortest_more(joint, found)))
