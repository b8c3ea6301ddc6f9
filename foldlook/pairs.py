"""Pairs of legs, which values with one key lead to: their moves, those that come about, lists of them."""

from heapq import heappop, heappush

from foldlook.errors import TooLarge
from foldlook.legs import Step
from foldlook.places import is_closed

MOST_PAIRS = 400


def first_pair(legs):
    """The pair before a letter is read."""
    return (legs.first(), legs.first())


def moves(legs, pair):
    """The moves of a pair, each as two steps, of which one may be to stay."""
    one, other = pair
    firsts, seconds = legs.steps(one), legs.steps(other)
    found = [(step, staying(other)) for step in firsts if step.key == ""]
    found.extend([(staying(one), step) for step in seconds if step.key == ""])
    for step in firsts:
        found.extend([(step, beside) for beside in seconds if step.key != "" and step.key == beside.key])
    return found


def staying(leg):
    """The step of no letter from a leg."""
    return Step("", "", "", leg)


def same_moves(legs, pair):
    """Those moves of a pair in which the machine makes the same for both legs."""
    return [(step, beside) for step, beside in moves(legs, pair) if step.out == beside.out]


def unlike_moves(legs, pair):
    """Those moves of a pair in which the machine does not make the same for both legs."""
    return [(step, beside) for step, beside in moves(legs, pair) if step.out != beside.out]


def pairs_about(legs, follow):
    """A dict from all pairs that come about by some moves to two values that lead to each.

    follow gives the moves of a pair. The values have the fewest letters together, and the pairs are in the order of
    their number. If there are too many pairs, the error is TooLarge.
    """
    found = {}
    queue = [(0, "", "", first_pair(legs))]
    while queue:
        _, one, other, pair = heappop(queue)
        if pair not in found:
            found[pair] = (one, other)
            if len(found) > MOST_PAIRS:
                raise TooLarge(f"more than {MOST_PAIRS} pairs come about")
            for step, beside in follow(pair):
                values = (one + step.letter, other + beside.letter)
                heappush(queue, (many_letters(values), values[0], values[1], (step.leg, beside.leg)))
    return found


def many_letters(values):
    """How many letters two values have together."""
    return len(values[0]) + len(values[1])


def are_closed(legs, pairs):
    """Whether a list has pairs of legs only, the first one, and with each all to which moves lead."""
    if not all([is_pair(legs, pair) for pair in pairs]):
        return False
    return is_closed(pairs, first_pair(legs), lambda here: pairs_behind(legs, here))


def pairs_behind(legs, pair):
    """The pairs to which the moves of a pair lead."""
    return [(step.leg, beside.leg) for step, beside in moves(legs, pair)]


def is_pair(legs, thing):
    """Whether something is a pair of legs, perhaps one that does not come about."""
    if not isinstance(thing, tuple) or len(thing) != 2:
        return False
    return legs.is_leg(thing[0]) and legs.is_leg(thing[1])
