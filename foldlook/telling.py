"""Whether keys tell what a machine makes: what serving and orders both ask of pairs."""

from foldlook.pairs import are_closed, many_letters, pairs_about, same_moves, unlike_moves


def told_pairs(legs):
    """A dict from all pairs that come about while the machine makes the same to two values for each."""
    return pairs_about(legs, lambda here: same_moves(legs, here))


def blurred_values(legs, found):
    """Two values of the fewest letters with one key, of which the machine does not make the same.

    None if there are none. found has the pairs that come about while it makes the same.
    """
    least = None
    for pair in found:
        one, other = found[pair]
        for step, beside in unlike_moves(legs, pair):
            values = (one + step.letter, other + beside.letter)
            if least is None or many_letters(values) < many_letters(least):
                least = values
    return least


def are_told(legs, pairs):
    """Whether a list of pairs shows that the keys tell what the machine makes."""
    return are_closed(legs, pairs) and all([unlike_moves(legs, pair) == [] for pair in pairs])
