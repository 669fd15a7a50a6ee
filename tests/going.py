"""Motions as they go: rooms led one by one, named by the images of the floor's roots.

It shares nothing with the package. A motion is told as (home, renaming).
"""

from functools import lru_cache
from itertools import combinations, permutations

from crosswalls.motions import Motion
from crosswalls.plans import Plan
from tests.reckoning import crossing_set, name_by_roots

LETTERS = "abcdef"


class Going:
    """What the ways of a plan lead to; names are kept once they are found."""

    def __init__(self, kinds, pairs):
        self.kinds = kinds
        self.pairs = tuple(pairs)
        self.plan = Plan(kinds, list(pairs))
        self.crossing = crossing_set(pairs)
        self.kept_names = {}

    def name(self, way):
        if way not in self.kept_names:
            self.kept_names[way] = name_by_roots(self.kinds, self.pairs, way)
        return self.kept_names[way]

    def distance(self, one, other):
        return len(self.name(one[::-1] + other))

    def renamings(self):
        """All renamings, by trying all orders of the kinds."""
        found = []
        for images in permutations(self.kinds):
            image = dict(zip(self.kinds, images))
            if all((image[a] + image[b] in self.crossing) == (a + b in self.crossing) for a, b in combinations(self.kinds, 2)):
                found.append("".join(images))
        return found

    def letters(self, renaming, way):
        return "".join(renaming[self.kinds.index(kind)] for kind in way)

    def led(self, told, name):
        return self.name(told[0] + self.letters(told[1], name))

    def back(self, told):
        renaming = "".join(self.kinds[told[1].index(kind)] for kind in self.kinds)
        return self.name(self.letters(renaming, told[0][::-1])), renaming

    def images(self, told, name, first, last):
        """The images of a room in the powers from first, at most 0, to last, at least 0, in a dict."""
        found = {0: name}
        for number in range(1, last + 1):
            found[number] = self.led(told, found[number - 1])
        back = self.back(told)
        for number in range(-1, first - 1, -1):
            found[number] = self.led(back, found[number + 1])
        return found

    def ball(self, far):
        """The names of all rooms at most so far from home."""
        found = [""]
        layer = [""]
        for _ in range(far):
            layer = sorted({self.name(name + kind) for name in layer for kind in self.kinds} - set(found))
            found = found + [name for name in layer if len(name) > len(found[-1]) - 1]
        return sorted(set(found), key=lambda name: (len(name), name))

    def motion(self, told):
        return Motion(self.plan, told[0], told[1])

    def some_motions(self, dice, longest, times):
        """Motions, told as (home, renaming), shifts among them."""
        renamings = self.renamings()
        for at in range(times):
            way = "".join(dice.choice(self.kinds) for _ in range(dice.randrange(longest + 1))) if self.kinds else ""
            yield self.name(way), self.kinds if at % 3 == 0 else dice.choice(renamings)


def shape(kinds, pairs):
    """The same for two plans exactly if one becomes the other by other letters."""
    beside = {kind: {other for pair in pairs for other in pair if kind in pair and other != kind} for kind in kinds}
    marks = {kind: (len(beside[kind]), sorted(len(beside[other]) for other in beside[kind])) for kind in kinds}
    ordered = sorted(kinds, key=lambda kind: marks[kind])
    groups = []
    for kind in ordered:
        if groups and marks[groups[-1][0]] == marks[kind]:
            groups[-1].append(kind)
        else:
            groups.append([kind])
    orders = [[]]
    for group in groups:
        orders = [order + list(more) for order in orders for more in permutations(group)]
    return min(
        tuple(other in beside[one] for at, one in enumerate(order) for other in order[:at]) for order in orders
    )


@lru_cache(maxsize=None)
def ways_of_crossing(many):
    """One list of pairs for each way in which so many kinds can cross."""
    if many == 0:
        return ((),)
    kinds = LETTERS[:many]
    found = {}
    for pairs in ways_of_crossing(many - 1):
        for chosen in words_of_subsets(kinds[:-1]):
            wider = pairs + tuple(kind + kinds[-1] for kind in chosen)
            found.setdefault(shape(kinds, wider), wider)
    return tuple(found.values())


def words_of_subsets(kinds):
    return ["".join(chosen) for many in range(len(kinds) + 1) for chosen in combinations(kinds, many)]


@lru_cache(maxsize=None)
def goings(most=6):
    """One for each way in which at most so many kinds can cross."""
    return tuple(Going(LETTERS[:many], pairs) for many in range(most + 1) for pairs in ways_of_crossing(many))
