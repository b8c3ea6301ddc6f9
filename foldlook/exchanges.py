"""Exchanges: which values must be written anew if the machine of an index is exchanged."""

from foldlook.asked import check_questions
from foldlook.checks import check_size, check_value, is_value, is_whole_from
from foldlook.conditions import first_stand, is_met, is_stand, meets, next_stand
from foldlook.machines import check_machines
from foldlook.places import is_state
from foldlook.spots import are_spots, spots_about, spots_behind


class Settled:
    """No value must be written anew: spots show it."""

    def __init__(self, spots):
        self.spots = list(spots)

    def __eq__(self, other):
        return isinstance(other, Settled) and self.spots == other.spots

    def shows(self, elder, newer, questions):
        """Whether the spots show it."""
        both = checked_keys(elder, newer, questions)
        if not are_spots(both, self.spots):
            return False
        return all([both.unlike_at(spot) is None for spot in self.spots])


class Unsettled:
    """A value must be written anew, for the question with the index which."""

    def __init__(self, value, which):
        self.value = value
        self.which = which

    def __eq__(self, other):
        return isinstance(other, Unsettled) and self.value == other.value and self.which == other.which

    def shows(self, elder, newer, questions):
        """Whether the value and the index show it."""
        check_exchange(elder, newer, questions)
        if not is_value(elder.letters, self.value) or not is_whole_from(0, len(questions) - 1, self.which):
            return False
        return is_unlike(elder, newer, questions[self.which], self.value)


class TwoKeys:
    """The keys that an elder and a newer machine make, and questions for both: where letters lead from spot to spot."""

    def __init__(self, elder, newer, questions):
        self.elder = elder
        self.newer = newer
        self.questions = tuple(questions)

    def first(self):
        """The first spot."""
        stands = [first_stand(question) for question in self.questions]
        return (0, 0, tuple([(now, now) for now in stands]))

    def behind(self, spot, letter):
        """The spot to which a letter leads."""
        state, made = self.elder.turn(spot[0], letter)
        other, out = self.newer.turn(spot[1], letter)
        stands = []
        for question, (one, another) in zip(self.questions, spot[2]):
            stands.append((self.stand_behind(question, one, made), self.stand_behind(question, another, out)))
        return (state, other, tuple(stands))

    def stand_behind(self, question, now, made):
        """The stand of a question behind what a machine makes, a letter or nothing."""
        return now if made == "" else next_stand(self.elder.letters, question, now, made)

    def all_behind(self, spot):
        """Pairs of each letter and the spot to which it leads."""
        return [(letter, self.behind(spot, letter)) for letter in self.elder.letters]

    def is_spot(self, thing):
        """Whether something is a spot, perhaps one that does not come about."""
        if not isinstance(thing, tuple) or len(thing) != 3:
            return False
        state, other, stands = thing
        return is_state(self.elder, state) and is_state(self.newer, other) and self.are_stands(stands)

    def are_stands(self, thing):
        """Whether something is a tuple with a pair of stands for each question."""
        if not isinstance(thing, tuple) or len(thing) != len(self.questions):
            return False
        return all([is_pair_of_stands(question, pair) for question, pair in zip(self.questions, thing)])

    def unlike_at(self, spot):
        """The index of the first question that is met with just one of both stands in a spot; None if there is none."""
        for which, (one, other) in enumerate(spot[2]):
            if is_met(self.questions[which], one) != is_met(self.questions[which], other):
                return which
        return None


def is_pair_of_stands(question, thing):
    """Whether something is a pair of stands of one question."""
    if not isinstance(thing, tuple) or len(thing) != 2:
        return False
    return is_stand(question, thing[0]) and is_stand(question, thing[1])


def check_exchange(elder, newer, questions):
    """Raise the error that is due for what is not an exchange of machines, and questions."""
    check_machines(elder, newer)
    check_questions(elder.letters, questions)


def checked_keys(elder, newer, questions):
    """The TwoKeys of these arguments, or the error that is due for one of them."""
    check_exchange(elder, newer, questions)
    return TwoKeys(elder, newer, questions)


def is_unlike(elder, newer, question, value):
    """Whether a question is met by what just one of both machines makes of a value."""
    return meets(elder, question, value) != meets(newer, question, value)


def exchange(elder, newer, questions):
    """A Settled or an Unsettled: whether some value must be written anew."""
    both = checked_keys(elder, newer, questions)
    found = spots_about(both)
    # A shortest value comes first.
    for spot in found:
        which = both.unlike_at(spot)
        if which is not None:
            return Unsettled(found[spot], which)
    return Settled(list(found))


def shortest_rewrite(elder, newer, questions):
    """The least number of letters of a value that must be written anew; None if there is none."""
    found = exchange(elder, newer, questions)
    # exchange gives a shortest value.
    return None if isinstance(found, Settled) else len(found.value)


def must_rewrite(elder, newer, questions, value):
    """Whether a value must be written anew."""
    check_exchange(elder, newer, questions)
    check_value(elder.letters, value)
    return any([is_unlike(elder, newer, question, value) for question in questions])


def count_rewrites(elder, newer, questions, size):
    """How many values of so many letters must be written anew."""
    both = checked_keys(elder, newer, questions)
    check_size(size)
    table = {spot: spots_behind(both, spot) for spot in spots_about(both)}
    counts = {both.first(): 1}
    for _ in range(size):
        counts = longer_counts(table, counts)
    return sum([counts[spot] for spot in counts if both.unlike_at(spot) is not None])


def longer_counts(table, counts):
    """How many values lead to each spot, if so many do that have one letter less."""
    longer = {}
    for spot in counts:
        for there in table[spot]:
            longer[there] = longer.get(there, 0) + counts[spot]
    return longer
