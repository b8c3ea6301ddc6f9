"""Choices: the cheapest of the indexes on offer that serve a list of filters."""

from foldlook.asked import check_filters, is_listed, is_mixed_pair
from foldlook.checks import is_whole, is_whole_from
from foldlook.errors import BadOffers
from foldlook.machines import Machine
from foldlook.serving import Served, serve

MOST_OFFERS = 5
LEAST_PRICE = 1
MOST_PRICE = 9


class Cheapest:
    """A choice that serves, as served shows, and none that costs less does, as against shows."""

    def __init__(self, choice, served, against):
        self.choice = choice
        self.served = [(index, list(pairs)) for index, pairs in served]
        self.against = {cheaper: against[cheaper] for cheaper in against}

    def __eq__(self, other):
        return (
            isinstance(other, Cheapest)
            and self.choice == other.choice
            and self.served == other.served
            and self.against == other.against
        )

    def shows(self, offers, filters):
        """Whether what it has shows it."""
        check_demand(offers, filters)
        if not is_choice(offers, self.choice) or not are_served(offers, filters, self.choice, self.served):
            return False
        return are_against(offers, filters, self.choice, self.against)


class Unserved:
    """The filter with the index which is served by no offer, as a pair of values for each offer shows."""

    def __init__(self, which, mixed):
        self.which = which
        self.mixed = list(mixed)

    def __eq__(self, other):
        return isinstance(other, Unserved) and self.which == other.which and self.mixed == other.mixed

    def shows(self, offers, filters):
        """Whether the index and the values show it."""
        check_demand(offers, filters)
        if not is_whole_from(0, len(filters) - 1, self.which):
            return False
        return are_all_mixed([machine for machine, _ in offers], filters[self.which], self.mixed)


def is_offer(thing):
    """Whether something is a pair of a machine and its price."""
    if not isinstance(thing, tuple) or len(thing) != 2:
        return False
    return isinstance(thing[0], Machine) and is_whole_from(LEAST_PRICE, MOST_PRICE, thing[1])


def check_offers(offers):
    """Raise BadOffers for what is not offers."""
    if not is_listed(MOST_OFFERS, offers):
        raise BadOffers(None)
    for index, offer in enumerate(offers):
        if not is_offer(offer) or offer[0].letters != offers[0][0].letters:
            raise BadOffers(index)


def check_demand(offers, filters):
    """Raise BadOffers or BadFilters for what is not offers and filters for them."""
    check_offers(offers)
    check_filters(offers[0][0].letters, filters)


def is_choice(offers, thing):
    """Whether something is an ascending tuple of indices of offers."""
    if not isinstance(thing, tuple) or not all([is_whole_from(0, len(offers) - 1, index) for index in thing]):
        return False
    return list(thing) == sorted(set(thing))


def price_of(offers, choice):
    """What a choice costs."""
    return sum([offers[index][1] for index in choice])


def choices(offers):
    """All choices, by what they cost, then as tuples."""
    check_offers(offers)
    found = [()]
    for index in range(len(offers)):
        found = found + [choice + (index,) for choice in found]
    return [choice for _, choice in sorted([(price_of(offers, choice), choice) for choice in found])]


def are_all_mixed(machines, asked, thing):
    """Whether something has, for each machine of an index, two values that show that it does not serve a filter."""
    if len(thing) != len(machines):
        return False
    return all([is_mixed_pair(index, asked, pair) for index, pair in zip(machines, thing)])


def are_served(offers, filters, choice, served):
    """Whether a list shows, for each filter, an offer of a choice by which it can be served."""
    if len(served) != len(filters):
        return False
    return all([is_served(offers, asked, choice, thing) for asked, thing in zip(filters, served)])


def is_served(offers, asked, choice, thing):
    """Whether something is a pair of the index of an offer of a choice, and of pairs as in a Served for a filter."""
    if not isinstance(thing, tuple) or len(thing) != 2:
        return False
    index, pairs = thing
    if not is_whole(index) or index not in choice:
        return False
    return Served(pairs).shows(offers[index][0], asked[0], asked[1])


def are_against(offers, filters, choice, against):
    """Whether a dict shows, for exactly all choices that cost less than one, that they do not serve."""
    if not all([is_choice(offers, cheaper) for cheaper in against]):
        return False
    if sorted(against) != sorted(cheaper_choices(offers, choice)):
        return False
    return all([is_against(offers, filters, cheaper, against[cheaper]) for cheaper in against])


def cheaper_choices(offers, choice):
    """All choices that cost less than one."""
    price = price_of(offers, choice)
    return [cheaper for cheaper in choices(offers) if price_of(offers, cheaper) < price]


def is_against(offers, filters, choice, thing):
    """Whether something is the index of a filter, and values that show that no offer of a choice serves this filter."""
    if not isinstance(thing, tuple) or len(thing) != 2:
        return False
    which, mixed = thing
    if not is_whole_from(0, len(filters) - 1, which) or not isinstance(mixed, tuple):
        return False
    return are_all_mixed([offers[index][0] for index in choice], filters[which], mixed)


def cheapest(offers, filters):
    """A Cheapest or an Unserved: which of the indexes on offer serve the filters at the least price."""
    check_demand(offers, filters)
    # All are asked for, whatever is chosen, since each may be too large.
    answers = [[serve(index, asked[0], asked[1]) for index, _ in offers] for asked in filters]
    which = unserved_by(answers, tuple(range(len(offers))))
    if which is not None:
        return Unserved(which, [mixed_of(answer) for answer in answers[which]])
    choice = [some for some in choices(offers) if unserved_by(answers, some) is None][0]
    served = [served_by(row, choice) for row in answers]
    return Cheapest(choice, served, {cheaper: refused(answers, cheaper) for cheaper in cheaper_choices(offers, choice)})


def unserved_by(answers, choice):
    """The index of the first filter that no offer of a choice serves; None if there is none.

    answers has a row for each filter, with a Served or a Mixed for each offer.
    """
    for which, row in enumerate(answers):
        if not any([isinstance(row[index], Served) for index in choice]):
            return which
    return None


def served_by(row, choice):
    """A pair of the first offer of a choice that serves a filter, and of the pairs that show it."""
    index = [at for at in choice if isinstance(row[at], Served)][0]
    return (index, row[index].pairs)


def refused(answers, choice):
    """A pair of a filter that no offer of a choice serves, and of the values that show it."""
    which = unserved_by(answers, choice)
    return (which, tuple([mixed_of(answers[which][index]) for index in choice]))


def mixed_of(answer):
    """The pair of the values of a Mixed."""
    return (answer.one, answer.other)


def least_price(offers, filters):
    """What the choice of a Cheapest costs; None if no choice serves."""
    found = cheapest(offers, filters)
    return price_of(offers, found.choice) if isinstance(found, Cheapest) else None
