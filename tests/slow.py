"""Answers worked out from the words of the document, by values or by walks of their own."""

from foldlook.conditions import meets, stand

# More pairs than these are not looked for.
MANY_PAIRS = 410


def next_stand(letters, condition, now, letter):
    """The stand behind a stand and a letter ([4]), also of stands that do not come about."""
    word = condition[0]
    if word == "between":
        pair = []
        for bound, item in zip(condition[1:], now):
            if item >= 0:
                order = 0 if item == len(bound) else letters.find(letter) - letters.find(bound[item])
                item = -2 if item == len(bound) or order > 0 else -1 if order < 0 else item + 1
            pair.append(item)
        return tuple(pair)
    text = condition[1]
    if word == "like":
        places = {at for at in now if text[at:at + 1] == "*"}
        places |= {at + 1 for at in now if text[at:at + 1] in ("?", letter) and at < len(text)}
        for at, sign in enumerate(text):
            if sign == "*" and at in places:
                places.add(at + 1)
        return tuple(sorted(places))
    if word == "begins" and now == len(text):
        return now
    return now + 1 if now >= 0 and text[now:now + 1] == letter else -1


def is_met(condition, now):
    """Whether a condition is met with a stand ([4])."""
    if condition[0] == "between":
        return (now[0] == -2 or now[0] == len(condition[1])) and now[1] > -2
    if condition[0] == "like":
        return len(condition[1]) in now
    return now == len(condition[1])


def all_stands(condition):
    """All stands of a condition, those too that do not come about."""
    if condition[0] == "between":
        low, high = condition[1:]
        return [(one, other) for one in range(-2, len(low) + 1) for other in range(-2, len(high) + 1)]
    text = condition[1]
    if condition[0] != "like":
        return list(range(-1, len(text) + 1))
    found = []
    for mask in range(2 ** (len(text) + 1)):
        places = tuple(at for at in range(len(text) + 1) if mask >> at & 1)
        if all(text[at:at + 1] != "*" or at + 1 in places for at in places):
            found.append(places)
    return found


def read(machine, state, letter):
    """The next state, and what is made."""
    return machine.rows[state][machine.letters.find(letter)]


def behind(machine, condition, state, now, letter):
    """The next state and the next stand, and what is made."""
    state, out = read(machine, state, letter)
    return state, (next_stand(machine.letters, condition, now, out) if out else now), out


def closure(start, follow):
    """All things that come from some by follow, these too."""
    found = list(start)
    known = set(start)
    for thing in found:
        for there in follow(thing):
            if there not in known:
                known.add(there)
                found.append(there)
    return found


def is_closed(things, first, follow):
    """Whether the first thing is there, and all that come from those that are there."""
    known = set(things)
    return first in known and all(there in known for thing in things for there in follow(thing))


# [5]

def spots_behind(index, question, machine, condition, spot):
    """The spots to which letters lead."""
    found = []
    for letter in index.letters:
        one = behind(index, question, spot[0], spot[1], letter)[:2]
        found.append(one + behind(machine, condition, spot[2], spot[3], letter)[:2])
    return found


def spots_by_values(index, question, machine, condition):
    """The spots that come about, each with a shortest value."""
    found = {}
    waiting = [""]
    for value in waiting:
        spot = (index.state_after(value), stand(index, question, value))
        spot += (machine.state_after(value), stand(machine, condition, value))
        if spot not in found:
            found[spot] = value
            waiting.extend(value + letter for letter in index.letters)
    return found


# [6] and [7]: a leg has a stand if there is a condition.

def leg_after(index, machine, condition, value):
    """The leg after a value."""
    leg = (index.state_after(value), machine.state_after(value))
    return leg if condition is None else leg + (stand(machine, condition, value),)


def steps(index, machine, condition, leg):
    """For each letter, what it makes for the key and for the machine, and the next leg."""
    found = []
    for letter in index.letters:
        state, key = read(index, leg[0], letter)
        if condition is None:
            other, out = read(machine, leg[1], letter)
            found.append((key, out, (state, other)))
        else:
            other, now, out = behind(machine, condition, leg[1], leg[2], letter)
            found.append((key, out, (state, other, now)))
    return found


def moves(index, machine, condition, pair):
    """For each move, the pair to which it leads, and whether the machine makes the same for both legs."""
    one, other = pair
    firsts, seconds = steps(index, machine, condition, one), steps(index, machine, condition, other)
    found = [((leg, other), out == "") for key, out, leg in firsts if key == ""]
    found += [((one, leg), out == "") for key, out, leg in seconds if key == ""]
    for key, out, leg in firsts:
        found += [((leg, there), out == made) for mark, made, there in seconds if key == mark and key != ""]
    return found


def pairs_behind(index, machine, condition, pair):
    """The pairs to which moves lead."""
    return [there for there, _ in moves(index, machine, condition, pair)]


def pairs_by_values(index, machine, condition, unlike=None):
    """The pairs that come about, each with two values of the fewest letters together.

    Without a condition, only values of which the machine makes the same go on; the other ones are put into unlike.
    """
    found = {}
    waiting = {0: [("", "")]}
    total = 0
    while total <= max(waiting) and len(found) < MANY_PAIRS:
        for one, other in waiting.get(total, []):
            if condition is None and machine.made(one) != machine.made(other):
                unlike.append((one, other))
                continue
            pair = (leg_after(index, machine, condition, one), leg_after(index, machine, condition, other))
            if pair in found:
                continue
            found[pair] = (one, other)
            for values in longer(index, one, other):
                waiting.setdefault(len(values[0] + values[1]), []).append(values)
        total += 1
    return found


def longer(index, one, other):
    """Two values with one key, and what moves make of them."""
    key = index.made(one)
    found = [(one + letter, other) for letter in index.letters if index.made(one + letter) == key]
    found += [(one, other + letter) for letter in index.letters if index.made(other + letter) == key]
    for letter in index.letters:
        made = index.made(one + letter)
        if made != key:
            found += [(one + letter, other + sign) for sign in index.letters if index.made(other + sign) == made]
    return found


# [9]

def cloud_of(index, machine, condition, key):
    """The cloud of a key, by values whose keys begin it."""
    found = {}
    waiting = [""]
    for value in waiting:
        made = index.made(value)
        place = (leg_after(index, machine, condition, value), made)
        if key.startswith(made) and place not in found:
            found[place] = value
            waiting.extend(value + letter for letter in index.letters)
    return tuple(sorted(leg for leg, made in found if made == key))


def cloud_behind(index, machine, condition, cloud, letter):
    """The cloud behind a cloud and a letter."""
    first = [leg for old in cloud for key, _, leg in steps(index, machine, condition, old) if key == letter]
    return tuple(sorted(set(closure(first, lambda leg: silent_legs(index, machine, condition, leg)))))


def silent_legs(index, machine, condition, leg):
    """The legs to which letters lead that make nothing for the key."""
    return [there for key, _, there in steps(index, machine, condition, leg) if key == ""]


def is_doubtful(condition, cloud):
    """Whether a cloud is doubtful."""
    return {is_met(condition, leg[2]) for leg in cloud} == {True, False}


def is_mixed(index, machine, condition, one, other):
    """Whether two values have one key, and the filter lets the first one by, and not the other one."""
    same = index.made(one) == index.made(other)
    return same and meets(machine, condition, one) and not meets(machine, condition, other)
