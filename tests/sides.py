"""What stands side by side in an exchange, with several questions, and with one ([10], [14], [15])."""

from foldlook.conditions import meets, stand

import slow


def by_values(letters, spot_after):
    """The spots that come about, each with a shortest value."""
    found = {}
    waiting = [""]
    for value in waiting:
        spot = spot_after(value)
        if spot not in found:
            found[spot] = value
            waiting.extend(value + letter for letter in letters)
    return found


def states(machine):
    return list(range(len(machine)))


# [10]

def exchange_shape(elder, newer, questions):
    stands = [slow.all_stands(question) for question in questions]
    return (states(elder), states(newer), tuple((found, found) for found in stands))


def exchange_after(elder, newer, questions, value):
    """The spot after a value."""
    pairs = [(stand(elder, question, value), stand(newer, question, value)) for question in questions]
    return (elder.state_after(value), newer.state_after(value), tuple(pairs))


def exchange_behind(elder, newer, questions, spot):
    """The spots to which letters lead."""
    found = []
    for letter in elder.letters:
        pairs = []
        for question, (one, other) in zip(questions, spot[2]):
            state, one, _ = slow.behind(elder, question, spot[0], one, letter)
            there, other, _ = slow.behind(newer, question, spot[1], other, letter)
            pairs.append((one, other))
        found.append((state, there, tuple(pairs)))
    return found


def exchange_spots(elder, newer, questions):
    return by_values(elder.letters, lambda value: exchange_after(elder, newer, questions, value))


def is_settled_in(questions, spot):
    """Whether each question is met with both stands, or with neither."""
    pairs = zip(questions, spot[2])
    return all(slow.is_met(question, one) == slow.is_met(question, other) for question, (one, other) in pairs)


def is_rewritten(elder, newer, question, value):
    """Whether a value must be written anew for a question."""
    return meets(elder, question, value) != meets(newer, question, value)


# [14]

def joint_shape(looks, machine, condition):
    places = tuple((states(index), slow.all_stands(question)) for index, question in looks)
    return (places, states(machine), slow.all_stands(condition))


def joint_after(looks, machine, condition, value):
    """The spot after a value."""
    places = tuple((index.state_after(value), stand(index, question, value)) for index, question in looks)
    return (places, machine.state_after(value), stand(machine, condition, value))


def joint_behind(looks, machine, condition, spot):
    """The spots to which letters lead."""
    found = []
    for letter in machine.letters:
        places = []
        for (index, question), (state, now) in zip(looks, spot[0]):
            places.append(slow.behind(index, question, state, now, letter)[:2])
        found.append((tuple(places),) + slow.behind(machine, condition, spot[1], spot[2], letter)[:2])
    return found


def joint_spots(looks, machine, condition):
    return by_values(machine.letters, lambda value: joint_after(looks, machine, condition, value))


def is_found_in(looks, way, spot):
    """Whether it is found in a spot."""
    met = [slow.is_met(question, now) for (_, question), (_, now) in zip(looks, spot[0])]
    return False not in met if way == "all" else True in met


def is_found(looks, way, value):
    """Whether the row of a value is found."""
    met = [meets(index, question, value) for index, question in looks]
    return False not in met if way == "all" else True in met


# [15]

def search_shape(index, question):
    return (states(index), slow.all_stands(question))


def search_behind(index, question, spot):
    """The pairs to which letters lead."""
    return [slow.behind(index, question, spot[0], spot[1], letter)[:2] for letter in index.letters]


def search_after(index, question, value):
    """The spot after a value."""
    return (index.state_after(value), stand(index, question, value))


def search_spots(index, question):
    return by_values(index.letters, lambda value: search_after(index, question, value))
