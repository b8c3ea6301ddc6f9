"""Places, a state of a machine with a stand of a condition, and walks from place to place."""

from foldlook.checks import is_whole_from
from foldlook.conditions import first_stand, is_met, is_stand, next_stand
from foldlook.errors import TooLarge


def first_place(condition):
    """The place before a letter is read."""
    return (0, first_stand(condition))


def place_behind(machine, condition, place, letter):
    """The place to which a letter leads."""
    state, now = place
    state, made = machine.turn(state, letter)
    if made != "":
        now = next_stand(machine.letters, condition, now, made)
    return (state, now)


def is_state(machine, thing):
    """Whether something is a state of a machine."""
    return is_whole_from(0, len(machine) - 1, thing)


def is_place(machine, condition, thing):
    """Whether something is a pair of a state and a stand, perhaps one that does not come about."""
    if not isinstance(thing, tuple) or len(thing) != 2:
        return False
    return is_state(machine, thing[0]) and is_stand(condition, thing[1])


def is_met_at(condition, place):
    """Whether a condition is met at a place."""
    return is_met(condition, place[1])


def reach(first, follow, most):
    """A dict from all that comes about to the fewest letters that lead to it, in the order of their number.

    follow gives, for one thing, pairs of a letter and what it leads to. If more things than most come about, the
    error is TooLarge; most is None if there is no limit.
    """
    found = {first: ""}
    waiting = [first]
    at = 0
    while at < len(waiting):
        now = waiting[at]
        for letter, there in follow(now):
            if there not in found:
                found[there] = found[now] + letter
                waiting.append(there)
        if most is not None and len(found) > most:
            raise TooLarge(f"more than {most} come about")
        at += 1
    return found


def is_closed(listed, first, follow):
    """Whether a list has a first thing, and with each all things that follow gives for it."""
    known = set(listed)
    if first not in known:
        return False
    for now in listed:
        for there in follow(now):
            if there not in known:
                return False
    return True
