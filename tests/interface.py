"""The names of the interface, where they stand, and their arguments."""

from foldlook import (
    choices, conditions, cutting, doubts, exchanges, finding, joining, looks, machines, orders, serving, texts,
)

FUNCTIONS = {
    machines: {
        "behind": ["one", "other"],
        "plain": ["letters"],
        "mapped": ["letters", "outs"],
        "cut": ["letters", "many"],
        "stripped": ["letters", "some"],
        "squeezed": ["letters", "some"],
        "compare": ["letters", "one", "other"],
    },
    conditions: {
        "is_condition": ["machine", "thing"],
        "meets": ["machine", "condition", "value"],
        "stand": ["machine", "condition", "value"],
    },
    looks: {
        "judge": ["index", "question", "machine", "condition"],
        "shortest_unlike": ["index", "question", "machine", "condition"],
        "found_in": ["index", "question", "values"],
    },
    serving: {
        "serve": ["index", "machine", "condition"],
        "can_serve": ["index", "machine", "condition"],
        "least_mixed": ["index", "machine", "condition"],
        "tell": ["index", "machine"],
        "does_tell": ["index", "machine"],
        "least_blurred": ["index", "machine"],
    },
    orders: {
        "order": ["index", "machine"],
        "keeps_order": ["index", "machine"],
    },
    doubts: {
        "doubts": ["index", "machine", "condition"],
        "are_endless": ["index", "machine", "condition"],
        "is_doubtful": ["index", "machine", "condition", "key"],
        "count_doubtful": ["index", "machine", "condition", "size"],
    },
    exchanges: {
        "exchange": ["elder", "newer", "questions"],
        "shortest_rewrite": ["elder", "newer", "questions"],
        "must_rewrite": ["elder", "newer", "questions", "value"],
        "count_rewrites": ["elder", "newer", "questions", "size"],
    },
    choices: {
        "choices": ["offers"],
        "cheapest": ["offers", "filters"],
        "least_price": ["offers", "filters"],
    },
    texts: {
        "machine_text": ["machine"],
        "condition_text": ["letters", "condition"],
        "read_machine": ["text"],
        "read_condition": ["letters", "text"],
    },
    joining: {
        "combine": ["looks", "way", "machine", "condition"],
        "fits": ["looks", "way", "machine", "condition"],
        "shortest_apart": ["looks", "way", "machine", "condition"],
    },
    finding: {
        "find": ["index", "question"],
        "is_vain": ["index", "question"],
        "shortest_hit": ["index", "question"],
        "finds_all": ["index", "question"],
    },
    cutting: {
        "cut_for": ["machine", "condition"],
        "least_cut": ["machine", "condition"],
    },
}

# The arguments of each class, and of its method shows.
ANSWERS = {
    looks: {
        "Exact": (["spots"], ["index", "question", "machine", "condition"]),
        "More": (["spots", "value"], ["index", "question", "machine", "condition"]),
        "Misses": (["value"], ["index", "question", "machine", "condition"]),
    },
    serving: {
        "Served": (["pairs"], ["index", "machine", "condition"]),
        "Mixed": (["one", "other"], ["index", "machine", "condition"]),
        "Tells": (["pairs"], ["index", "machine"]),
        "Blurs": (["one", "other"], ["index", "machine"]),
    },
    orders: {
        "Rises": (["pairs"], ["index", "machine"]),
        "Crosses": (["one", "other"], ["index", "machine"]),
    },
    doubts: {
        "Endless": (["head", "loop", "tail"], ["index", "machine", "condition"]),
        "Bounded": (["longest", "mixed", "bounds"], ["index", "machine", "condition"]),
    },
    exchanges: {
        "Settled": (["spots"], ["elder", "newer", "questions"]),
        "Unsettled": (["value", "which"], ["elder", "newer", "questions"]),
    },
    choices: {
        "Cheapest": (["choice", "served", "against"], ["offers", "filters"]),
        "Unserved": (["which", "mixed"], ["offers", "filters"]),
    },
    joining: {
        "Fits": (["spots"], ["looks", "way", "machine", "condition"]),
        "Beyond": (["spots", "value"], ["looks", "way", "machine", "condition"]),
        "Lacks": (["value"], ["looks", "way", "machine", "condition"]),
    },
    finding: {
        "Vain": (["spots"], ["index", "question"]),
        "Hits": (["value"], ["index", "question"]),
    },
    cutting: {
        "Least": (["number", "pairs", "mixed"], ["machine", "condition"]),
        "NoLeast": (["mixed"], ["machine", "condition"]),
    },
}

# The arguments of a Desk, of its methods, and its properties.
DESK = (
    ["index"],
    {
        "put": ["value"],
        "take": ["row"],
        "renew": ["row"],
        "adopt": ["machine"],
        "ask": ["question"],
        "stale": [],
        "undo": [],
        "branch": [],
        "attempt": ["work"],
        "__len__": [],
    },
    ["present", "journal", "entries"],
)
