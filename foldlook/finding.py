"""Finding: whether a question to an index finds anything, and whether it finds all."""

from foldlook.checks import is_value
from foldlook.conditions import check_condition, meets
from foldlook.machines import check_machine
from foldlook.places import first_place, is_met_at, is_place, place_behind, reach
from foldlook.spots import are_spots


class Vain:
    """The question finds no row, whatever values there are: spots show it."""

    def __init__(self, spots):
        self.spots = list(spots)

    def __eq__(self, other):
        return isinstance(other, Vain) and self.spots == other.spots

    def shows(self, index, question):
        """Whether the spots show it."""
        search = checked_search(index, question)
        return are_spots(search, self.spots) and not any([search.finds(spot) for spot in self.spots])


class Hits:
    """The question finds the row of a value."""

    def __init__(self, value):
        self.value = value

    def __eq__(self, other):
        return isinstance(other, Hits) and self.value == other.value

    def shows(self, index, question):
        """Whether the value shows it."""
        checked_search(index, question)
        return is_value(index.letters, self.value) and meets(index, question, self.value)


class Search:
    """A question to an index: where letters lead from spot to spot, pairs of a state and a stand."""

    def __init__(self, index, question):
        self.index = index
        self.question = question

    def first(self):
        """The first spot."""
        return first_place(self.question)

    def all_behind(self, spot):
        """Pairs of each letter and the spot to which it leads."""
        return [(letter, place_behind(self.index, self.question, spot, letter)) for letter in self.index.letters]

    def is_spot(self, thing):
        """Whether something is a spot, perhaps one that does not come about."""
        return is_place(self.index, self.question, thing)

    def finds(self, spot):
        """Whether the question is met in a spot."""
        return is_met_at(self.question, spot)

    def about(self):
        """A dict from all spots that come about to a shortest value that leads to each."""
        # A machine and a condition are small, so that no limit is due.
        return reach(self.first(), lambda here: self.all_behind(here), None)


def checked_search(index, question):
    """The Search of these arguments, or the error that is due for one of them."""
    check_machine(index)
    check_condition(index.letters, question)
    return Search(index, question)


def find(index, question):
    """A Vain or a Hits: whether a question to an index finds the row of some value."""
    search = checked_search(index, question)
    found = search.about()
    # A shortest value comes first.
    for spot in found:
        if search.finds(spot):
            return Hits(found[spot])
    return Vain(list(found))


def is_vain(index, question):
    """Whether a question to an index finds no row, whatever values there are."""
    return isinstance(find(index, question), Vain)


def shortest_hit(index, question):
    """The least number of letters of a value that a question finds; None if it is vain."""
    found = find(index, question)
    # find gives a shortest value.
    return None if isinstance(found, Vain) else len(found.value)


def finds_all(index, question):
    """Whether a question to an index finds all rows, whatever their values are."""
    search = checked_search(index, question)
    return all([search.finds(spot) for spot in search.about()])
