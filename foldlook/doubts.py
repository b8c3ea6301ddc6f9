"""Second looks: which keys are doubtful, how many letters they have, how many there are of a size."""

from foldlook.checks import check_size, check_value, is_value, is_whole
from foldlook.clouds import CloudMap, Clouds
from foldlook.conditions import check_filter
from foldlook.places import reach
from foldlook.serving import are_mixed


class Endless:
    """The doubtful keys are endlessly many: head, loop as often as wanted, and tail are some."""

    def __init__(self, head, loop, tail):
        self.head = head
        self.loop = loop
        self.tail = tail

    def __eq__(self, other):
        return (
            isinstance(other, Endless)
            and self.head == other.head
            and self.loop == other.loop
            and self.tail == other.tail
        )

    def shows(self, index, machine, condition):
        """Whether the three keys show it."""
        clouds = checked_clouds(index, machine, condition)
        if not all([is_value(index.letters, key) for key in (self.head, self.loop, self.tail)]) or self.loop == "":
            return False
        if clouds.of_key(self.head) != clouds.of_key(self.head + self.loop):
            return False
        return clouds.is_doubtful(clouds.of_key(self.head + self.tail))


class Bounded:
    """No doubtful key is longer than longest, of which mixed is an example: bounds show it."""

    def __init__(self, longest, mixed, bounds):
        self.longest = longest
        self.mixed = mixed
        self.bounds = {cloud: bounds[cloud] for cloud in bounds}

    def __eq__(self, other):
        return (
            isinstance(other, Bounded)
            and self.longest == other.longest
            and self.mixed == other.mixed
            and self.bounds == other.bounds
        )

    def shows(self, index, machine, condition):
        """Whether the values and the bounds show it."""
        clouds = checked_clouds(index, machine, condition)
        if not is_longest(index, machine, condition, self.longest, self.mixed):
            return False
        return are_bounds(clouds, self.longest, self.bounds)


def checked_clouds(index, machine, condition):
    """The Clouds of these arguments, or the error that is due for one of them."""
    check_filter(index, machine, condition)
    return Clouds(index, machine, condition)


def is_longest(index, machine, condition, longest, mixed):
    """Whether mixed is two values with one doubtful key of so many letters, or both are None."""
    if longest is None or mixed is None:
        return longest is None and mixed is None
    if not is_whole(longest) or not isinstance(mixed, tuple) or len(mixed) != 2:
        return False
    one, other = mixed
    return are_mixed(index, machine, condition, one, other) and len(index.made(one)) == longest


def are_bounds(clouds, longest, bounds):
    """Whether a dict from clouds to numbers shows that no doubtful key has more letters than longest."""
    if not all([clouds.is_cloud(cloud) and is_bound(bounds[cloud]) for cloud in bounds]):
        return False
    if bounds.get(clouds.first()) != (-1 if longest is None else longest):
        return False
    return all([is_bounded(clouds, cloud, bounds) for cloud in bounds])


def is_bound(thing):
    """Whether something is an integer of at least -1."""
    return is_whole(thing) and thing >= -1


def is_bounded(clouds, cloud, bounds):
    """Whether the number of a cloud bounds those of the clouds behind it, and what is doubtful is not bounded by -1."""
    if clouds.is_doubtful(cloud) and bounds[cloud] < 0:
        return False
    for _, there in clouds.all_behind(cloud):
        if there not in bounds or bounds[there] != -1 and bounds[there] >= bounds[cloud]:
            return False
    return True


def doubts(index, machine, condition):
    """An Endless or a Bounded: which keys of an index need a second look."""
    clouds = checked_clouds(index, machine, condition)
    about = CloudMap(clouds)
    numbers = numbers_ahead(about)
    if None in numbers:
        return endless(about, numbers)
    bounds = {cloud: numbers[at] for at, cloud in enumerate(about.listed)}
    if numbers[0] == -1:
        return Bounded(None, None, bounds)
    key = longest_key(about, numbers)
    mixed = (value_of(clouds.legs, key, True), value_of(clouds.legs, key, False))
    return Bounded(numbers[0], mixed, bounds)


def are_endless(index, machine, condition):
    """Whether the doubtful keys are endlessly many."""
    return isinstance(doubts(index, machine, condition), Endless)


def is_doubtful(index, machine, condition, key):
    """Whether a key is doubtful."""
    clouds = checked_clouds(index, machine, condition)
    check_value(index.letters, key)
    return clouds.is_doubtful(clouds.of_key(key))


def count_doubtful(index, machine, condition, size):
    """How many keys of so many letters are doubtful."""
    clouds = checked_clouds(index, machine, condition)
    check_size(size)
    about = CloudMap(clouds)
    # Each key has one cloud, so it is enough to count how many keys lead to each cloud.
    counts = [1] + [0] * (len(about.listed) - 1)
    for _ in range(size):
        counts = counts_behind(about, counts)
    return sum([count for at, count in enumerate(counts) if about.doubtful[at]])


def counts_behind(about, counts):
    """How many keys lead to each cloud, if so many do that have one letter less."""
    longer = [0] * len(counts)
    for at, count in enumerate(counts):
        for _, there in about.ways[at]:
            longer[there] = longer[there] + count
    return longer


def numbers_ahead(about):
    """For each cloud, the most letters that lead from it to a doubtful one, -1 if none do, None if endlessly many."""
    leading = leading_to_doubt(about)
    numbers = [None if at in leading else -1 for at in range(len(about.listed))]
    changed = True
    while changed:
        changed = False
        for at in range(len(numbers)):
            ahead = [numbers[there] for _, there in about.ways[at]]
            # What is doubtful itself has 0 at least, and so has what leads to it.
            if numbers[at] is None and None not in ahead:
                numbers[at] = max([0] + [number + 1 for number in ahead])
                changed = True
    return numbers


def leading_to_doubt(about):
    """A dict with the places of all clouds from which letters, perhaps none, lead to a doubtful one."""
    leading = {at: True for at in range(len(about.listed)) if about.doubtful[at]}
    many = -1
    while many < len(leading):
        many = len(leading)
        for at in range(len(about.listed)):
            if any([there in leading for _, there in about.ways[at]]):
                leading[at] = True
    return leading


def endless(about, numbers):
    """The Endless for clouds of which some have no number."""
    at, key = 0, ""
    keys = {}
    # Each cloud without a number leads to one without a number, so a cloud comes again at some time.
    while at not in keys:
        keys[at] = key
        letter, at = [way for way in about.ways[at] if numbers[way[1]] is None][0]
        key = key + letter
    head = keys[at]
    return Endless(head, key[len(head):], key_to_doubt(about, at))


def key_to_doubt(about, at):
    """The fewest letters that lead from a cloud to a doubtful one."""
    found = reach(at, lambda here: about.ways[here], None)
    return [found[place] for place in found if about.doubtful[place]][0]


def longest_key(about, numbers):
    """A doubtful key of as many letters as possible."""
    at, key = 0, ""
    while numbers[at] > 0:
        letter, at = [way for way in about.ways[at] if numbers[way[1]] == numbers[at] - 1][0]
        key = key + letter
    return key


def value_of(legs, key, wanted):
    """A shortest value with a doubtful key that the filter lets by, or does not let by, as is wanted."""
    found = reach((legs.first(), 0), lambda here: places_on_the_way(legs, key, here), None)
    for leg, many in found:
        if many == len(key) and legs.lets_by(leg) == wanted:
            return found[(leg, many)]
    return None


def places_on_the_way(legs, key, place):
    """Pairs of each letter that goes on with a key, and of the leg and the number of letters of the key behind it."""
    leg, many = place
    steps = [step for step in legs.steps(leg) if step.key == "" or step.key == key[many:many + 1]]
    return [(step.letter, (step.leg, many + len(step.key))) for step in steps]
