"""A floor up to some distance from home, found by a plain walk that shares nothing with the package.

Rooms are told apart by the integer images of the floor's roots. Walls are found
by the chains of steps of the document's point [5], and beyond which walls a room
is by counting the doors of each on the way to it.
"""

from functools import lru_cache

from crosswalls.lots import Half
from crosswalls.plans import Plan
from crosswalls.rooms import Room
from crosswalls.walls import Wall
from tests.reckoning import crossing_set

SIX = "abcdef"


def first_rows(kinds):
    return tuple(tuple(int(kind == other) for other in kinds) for kind in kinds)


def rows_behind(rows, at, across):
    """The images of the roots for the room behind the door number at."""
    own = rows[at]
    return tuple(
        tuple(-number for number in own) if place == at
        else row if place in across
        else tuple(number + 2 * more for number, more in zip(row, own))
        for place, row in enumerate(rows)
    )


class Floor:
    """The rooms at most so far from home, by their names.

    names: all of them, ascending. behind[name]: the names behind its doors, by
    kinds, as far as they are near enough. walls[name, kind]: the wall of a door,
    as (name, kind) of its nearest room. beyond[name]: the walls beyond which a
    room is.
    """

    def __init__(self, plan, far):
        self.plan = plan
        self.far = far
        self.crossing = crossing_set(plan.pairs)
        self.walk(plan.kinds, far)
        self.find_walls()
        self.beyond = {"": frozenset()}
        for name in self.names[1:]:
            wall = self.walls[name[:-1], name[-1]]
            assert wall not in self.beyond[name[:-1]]
            self.beyond[name] = self.beyond[name[:-1]] | {wall}
        self.every_wall = sorted(set(self.walls.values()), key=lambda wall: (len(wall[0]), wall))

    def walk(self, kinds, far):
        across = [
            [place for place, kind in enumerate(kinds) if own + kind in self.crossing] for own in kinds
        ]
        names = {first_rows(kinds): ""}
        self.behind = {"": {}}
        layer = [("", first_rows(kinds))]
        for _ in range(far + 1):
            coming = []
            for name, rows in layer:
                for at, kind in enumerate(kinds):
                    other = rows_behind(rows, at, across[at])
                    if other not in names:
                        if len(name) == far:
                            continue
                        names[other] = name + kind
                        self.behind[name + kind] = {}
                        coming.append((name + kind, other))
                    self.behind[name][kind] = names[other]
            layer = coming
        self.names = list(self.behind)

    def find_walls(self):
        least = {}
        for start in ((name, kind) for name in self.names for kind in self.plan.kinds):
            waiting = [] if start in least else [start]
            while waiting:
                name, kind = waiting.pop()
                if (name, kind) in least:
                    continue
                least[name, kind] = start
                for step, other in self.behind[name].items():
                    if step == kind or step + kind in self.crossing:
                        waiting.append((other, kind))
        self.walls = least

    def distance(self, one, other):
        return len(self.beyond[one] ^ self.beyond[other])

    def between(self, one, other):
        """The names of all rooms between two rooms that are near enough to home."""
        assert len(self.beyond[one] | self.beyond[other]) <= self.far
        parting = self.beyond[one] ^ self.beyond[other]
        shared = self.beyond[one] & self.beyond[other]
        return [name for name in self.names if shared <= self.beyond[name] and self.beyond[name] - shared <= parting]

    def hull(self, names):
        """The least closed set: rooms between are put in until there are no more."""
        found = list(dict.fromkeys(names))
        for one in found:
            for other in found[:found.index(one)]:
                found.extend(name for name in self.between(one, other) if name not in found)
        return sorted(set(found), key=lambda name: (len(name), name))

    def room(self, name):
        return Room(self.plan, name)

    def wall(self, told):
        return Wall(Room(self.plan, told[0]), told[1])

    def half(self, told, far):
        return Half(self.wall(told), far)

    def within(self, distance):
        """The names of the rooms at most so far from home."""
        return [name for name in self.names if len(name) <= distance]

    def doors_within(self, distance):
        return [(name, kind) for name in self.within(distance) for kind in self.plan.kinds]

    def having(self, halves):
        """The names of the rooms that all of some halves have, each told as (wall, far)."""
        return [name for name in self.names if all((wall in self.beyond[name]) == far for wall, far in halves)]


@lru_cache(maxsize=None)
def floor_of(kinds, pairs, far):
    return Floor(Plan(kinds, list(pairs)), far)


def floor(kinds, pairs=(), far=4):
    """The floor of a plan, kept for further tests."""
    return floor_of(kinds, tuple(pairs), far)


def ring(kinds):
    return tuple(one + other for one, other in zip(kinds, kinds[1:] + kinds[:1]))


def all_crossing(kinds):
    return tuple(one + other for at, one in enumerate(kinds) for other in kinds[at + 1:])


def small_floors(far_of_few=6, far_of_many=4):
    """Floors of 0 to 6 kinds, of which none, some and all cross."""
    for kinds in ("", "m", "ab"):
        yield floor(kinds, (), far_of_few)
    yield floor("ab", ("ab",), far_of_few)
    yield floor("abc", (), far_of_few - 1)
    for pairs in (("ab", "bc"), ("ac", "bc"), ("ab", "bc", "ac"), ("bc",)):
        yield floor("abc", pairs, far_of_few)
    for pairs in (ring("abcd"), ring("acbd"), all_crossing("abcd"), ("ab", "ac", "ad"), ("ad", "bc"), ("ab", "bc", "cd")):
        yield floor("abcd", pairs, far_of_many + 1)
    yield floor("abcd", (), far_of_many)
    for pairs in (ring("abcde"), ring("adbec"), ("ad", "ae", "bd", "be", "cd"), all_crossing("abcde")):
        yield floor("abcde", pairs, far_of_many)
    yield floor(SIX, (), far_of_many - 1)
    for pairs in (ring(SIX), ring(SIX) + ("ad", "be"), ("ad", "ae", "bd", "be", "cf", "af", "bf"), all_crossing(SIX)):
        yield floor(SIX, pairs, far_of_many)
