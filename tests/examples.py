"""The plans of the document's examples, and what several tests need."""

from itertools import combinations, product

from crosswalls.errors import InvalidKind
from crosswalls.plans import Plan
from crosswalls.rooms import Room

P = Plan("abc", ["ab", "bc"])
Q = Plan.ring("abcd")
D = Plan("abc", ["ac", "bc"])
L = Plan("ab")

# One of each sort that the document calls "any value", none of them a string.
NO_STRINGS = [
    None, True, False, 0, 1, -1, 10 ** 5000, (), [], {}, ("a",), ["a"], ["a", "b"], {"a": "b"},
    [[[[["a"]]]]], P, Room(P, "a"), InvalidKind("x"),
]
# Strings that are no kind of any plan with small letters.
NO_KINDS = ["", "A", "1", " ", "-", "\n", "\u00e4", "\u0430", "ab", "aa", "a ", "abc"]


def all_pairs(kinds):
    return [one + other for one, other in combinations(kinds, 2)]


def all_plans(kinds):
    """Every plan of these kinds."""
    pairs = all_pairs(kinds)
    for chosen in product([False, True], repeat=len(pairs)):
        yield Plan(kinds, [pair for pair, taken in zip(pairs, chosen) if taken])


def caught(wanted, deed):
    """The error of the class wanted that the deed raises; no other class will do."""
    try:
        deed()
    except wanted as error:
        assert error.__class__ is wanted, error
        return error
    raise AssertionError(f"no {wanted.__name__} was raised")
