"""Tables and closed floors for the tests, and floors of every way of crossing."""

from functools import lru_cache
from itertools import product

from tests.floors import floor
from tests.going import LETTERS, ways_of_crossing


def every_floor(most=4, fars=(1, 2, 6, 5, 4)):
    """A floor for each way in which at most so many kinds can cross, walked so far."""
    for many in range(most + 1):
        for pairs in ways_of_crossing(many):
            yield floor(LETTERS[:many], pairs, fars[many] + (many > 2 and len(pairs) > many - 2))


@lru_cache(maxsize=None)
def all_tables(many):
    return tuple(product(range(many), repeat=many))


@lru_cache(maxsize=None)
def all_mirrors(many):
    """All tables that lead back."""
    if many == 0:
        return ((),)
    last = many - 1
    found = [table + (last,) for table in all_mirrors(last)]
    for table in all_mirrors(last):
        found += [table[:at] + (last,) + table[at + 1:] + (at,) for at in range(last) if table[at] == at]
    return tuple(found)


def exchanged(one, other):
    return all(one[other[at]] == other[one[at]] for at in range(len(one)))


def some_tables(dice, plan, choices):
    """A table for each kind, of these, so that doors of kinds that cross may be exchanged."""
    found = []
    for at, kind in enumerate(plan.kinds):
        across = [found[place] for place in range(at) if plan.crosses(plan.kinds[place], kind)]
        found.append(dice.choice([table for table in choices if all(exchanged(table, other) for other in across)]))
    return found


def both_tables(one, other):
    """The tables of pairs of states, the state (0, 0) first."""
    many = len(other[0]) if other else 1
    return [
        [own[at // many] * many + strange[at % many] for at in range(len(own) * many)]
        for own, strange in zip(one, other)
    ]


def state_after(plan, tables, way, state=0):
    for kind in way:
        state = tables[plan.kinds.index(kind)][state]
    return state


def lists(tables):
    return [list(table) for table in tables]
