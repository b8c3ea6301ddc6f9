"""Conditions on what a machine makes, and their stands, letter by letter."""

from foldlook.checks import is_value, is_whole_from
from foldlook.errors import BadCondition
from foldlook.machines import check_machine, check_machines

KINDS = ("equal", "begins", "between", "like")
MOST_SIGNS = 4

UNLIKE = -1
AHEAD = -1
BEHIND = -2


def is_condition(machine, thing):
    """Whether something is a condition on what a machine makes."""
    check_machine(machine)
    return is_condition_on(machine.letters, thing)


def meets(machine, condition, value):
    """Whether what a machine makes of a value meets a condition."""
    return is_met(condition, stand(machine, condition, value))


def stand(machine, condition, value):
    """The stand of a condition after what a machine makes of a value."""
    check_machine(machine)
    check_condition(machine.letters, condition)
    now = first_stand(condition)
    for letter in machine.made(value):
        now = next_stand(machine.letters, condition, now, letter)
    return now


def is_condition_on(letters, thing):
    """Whether something is a condition on texts of some letters."""
    if not isinstance(thing, tuple) or not 2 <= len(thing) <= 3:
        return False
    kind = thing[0]
    if not isinstance(kind, str) or kind not in KINDS:
        return False
    if len(thing) != (3 if kind == "between" else 2):
        return False
    signs = letters + "?*" if kind == "like" else letters
    return all([is_value(signs, text) and len(text) <= MOST_SIGNS for text in thing[1:]])


def check_condition(letters, condition):
    """Raise BadCondition for what is not a condition on texts of the letters."""
    if not is_condition_on(letters, condition):
        raise BadCondition("not a condition of the letters")


def check_filter(index, machine, condition):
    """Raise BadMachine, Unlike or BadCondition for what is not an index and a filter."""
    check_machines(index, machine)
    check_condition(machine.letters, condition)


def is_stand(condition, thing):
    """Whether something is a stand of a condition, perhaps one that does not come about."""
    if condition[0] == "between":
        return is_pair_of_stands(condition[1], condition[2], thing)
    if condition[0] == "like":
        return is_places(condition[1], thing)
    return is_whole_from(UNLIKE, len(condition[1]), thing)


def first_stand(condition):
    """The stand of a condition after the empty text."""
    if condition[0] == "between":
        return (0, 0)
    if condition[0] == "like":
        return with_skips(condition[1], [0])
    return 0


def next_stand(letters, condition, now, letter):
    """The stand of a condition behind a stand and a letter."""
    if condition[0] == "between":
        low, high = now
        return (next_beside(letters, condition[1], low, letter), next_beside(letters, condition[2], high, letter))
    if condition[0] == "like":
        return next_places(condition[1], now, letter)
    return next_matched(condition, now, letter)


def is_met(condition, now):
    """Whether a condition is met with a stand."""
    if condition[0] == "between":
        low, high = now
        return low in (BEHIND, len(condition[1])) and high != BEHIND
    if condition[0] == "like":
        return len(condition[1]) in now
    return now == len(condition[1])


def next_matched(condition, now, letter):
    """The next stand for "equal" and "begins"."""
    kind, text = condition
    if now == len(text) and kind == "begins":
        return now
    # UNLIKE is below 0, and as an index it would find the last letter.
    if 0 <= now < len(text) and letter == text[now]:
        return now + 1
    return UNLIKE


def next_beside(letters, bound, now, letter):
    """The next item of a stand for "between", for one of its bounds."""
    if now in (AHEAD, BEHIND):
        return now
    if now == len(bound):
        return BEHIND
    if letter == bound[now]:
        return now + 1
    return AHEAD if letters.index(letter) < letters.index(bound[now]) else BEHIND


def next_places(pattern, now, letter):
    """The next stand for "like"."""
    places = []
    for place in now:
        sign = pattern[place:place + 1]
        if sign == "*":
            places.append(place)
        if sign in ("?", letter):
            places.append(place + 1)
    return with_skips(pattern, places)


def with_skips(pattern, places):
    """The least ascending tuple of places with these, and with the place behind each `*` in it."""
    # One pass is enough: what stands behind a place comes later in it.
    found = []
    for place in range(len(pattern) + 1):
        skipped = place - 1 in found and pattern[place - 1] == "*"
        if place in places or skipped:
            found.append(place)
    return tuple(found)


def is_pair_of_stands(low, high, thing):
    """Whether something is a stand for "between" with two bounds."""
    if not isinstance(thing, tuple) or len(thing) != 2:
        return False
    return is_whole_from(BEHIND, len(low), thing[0]) and is_whole_from(BEHIND, len(high), thing[1])


def is_places(pattern, thing):
    """Whether something is a stand for "like": ascending places, with those behind each `*`."""
    if not isinstance(thing, tuple) or not all([is_whole_from(0, len(pattern), place) for place in thing]):
        return False
    return thing == with_skips(pattern, thing)
