"""[30], with [2] and [53] as far as they speak of shortest ways."""

import unittest
from itertools import combinations
from random import Random

from crosswalls.errors import NoSuch, NotBetween, NotShortest, OtherPlan, TooMany
from crosswalls.plans import Plan
from crosswalls.rooms import Room
from crosswalls.shortest import Shortest
from crosswalls.walls import Wall, walls_between
from tests.examples import D, L, NO_STRINGS, P, Q, caught
from tests.floors import all_crossing, ring, small_floors

RING = Plan.ring("abcde")
NO_NUMBERS = [-1, -10 ** 50, True, False, 1.0, 0.5, "1", "", None, [], [1], (1,), {}, P, Room(P), slice(0, 1)]


def listed(near, one, other):
    """All shortest ways, found by going through doors that lead nearer to the other room."""
    if one == other:
        return [""]
    found = []
    for kind, behind in sorted(near.behind[one].items()):
        if near.distance(behind, other) < near.distance(one, other):
            found += [kind + way for way in listed(near, behind, other)]
    return found


def rooms_along(near, one, way):
    found = [one]
    for kind in way:
        found.append(near.behind[found[-1]][kind])
    return found


def walls_along(near, one, way):
    return [near.walls[name, kind] for name, kind in zip(rooms_along(near, one, way), way)]


def some_pairs(dice, near, many):
    """Pairs of rooms all ways between which lie in the walk."""
    found = []
    while len(found) < many:
        one, other = dice.choice(near.names), dice.choice(near.names)
        if len(near.beyond[one] | near.beyond[other]) <= near.far:
            found.append((one, other))
    return found


def all_floors():
    yield from small_floors(8, 6)


class ExamplesTest(unittest.TestCase):

    def test_shortest(self):
        home = Room(RING)
        ways = Shortest(home, Room(RING, "abd"))
        found = (ways.total(), ways.size(), ways[1], ways.through(Room(RING, "b")), ways.exchanges("abd", "bad"))
        self.assertEqual(found, (2, 5, "bad", 1, 1))
        a, b, d = Wall(home, "a"), Wall(home, "b"), Wall(Room(RING, "ab"), "d")
        self.assertEqual((ways.forced(a, d), ways.forced(a, b)), (True, False))


class WaysTest(unittest.TestCase):

    def test_against_listing_them(self):
        dice = Random(1)
        several = 0
        for near in all_floors():
            for one, other in some_pairs(dice, near, 10):
                wanted = listed(near, one, other)
                ways = Shortest(near.room(one), near.room(other))
                self.assertEqual(ways.total(), len(wanted))
                self.assertEqual([ways[at] for at in range(len(wanted))], wanted)
                self.assertEqual([ways.number_of(way) for way in wanted], list(range(len(wanted))))
                self.assertTrue(all([way in ways for way in wanted]))
                for rank in (len(wanted), len(wanted) + 1, 10 ** 100):
                    self.assertEqual(caught(NoSuch, lambda: ways[rank]).rank, rank)
                several += len(wanted) > 2
        self.assertGreater(several, 20)

    def test_size_and_through(self):
        dice = Random(2)
        for near in all_floors():
            for one, other in some_pairs(dice, near, 6):
                ways = Shortest(near.room(one), near.room(other))
                along = [rooms_along(near, one, way) for way in listed(near, one, other)]
                on_them = {name for names in along for name in names}
                self.assertEqual(ways.size(), len(on_them))
                for name in on_them | set(near.names[::9]):
                    self.assertEqual(ways.through(near.room(name)), sum(name in names for names in along))

    def test_in_with_any_value_and_not_shortest(self):
        ways = Shortest(Room(P), Room(P, "bca"))
        self.assertEqual([ways[0], ways[1], ways[2]], ["bca", "cab", "cba"])
        wrong = NO_STRINGS + ["", "b", "bc", "bac", "abc", "acb", "bcab", "bcabb", "BCA", "b a", "xyz", "bca ", ways]
        for value in wrong:
            self.assertIs(value in ways, False)
            self.assertIs(caught(NotShortest, lambda: ways.number_of(value)).way, value)
            self.assertIs(caught(NotShortest, lambda: ways.exchanges(value, "bca")).way, value)
            self.assertIs(caught(NotShortest, lambda: ways.exchanges("bca", value)).way, value)
            self.assertIs(caught(NotShortest, lambda: ways.exchanges(value, "zzz")).way, value)
            self.assertIs(caught(NotShortest, lambda: ways.exchanges(value, None)).way, value)
        self.assertIs("cba" in ways, True)

    def test_all_short_strings(self):
        near = next(floor for floor in all_floors() if floor.plan == Q)
        ways = Shortest(near.room("ab"), near.room("cd"))
        wanted = listed(near, "ab", "cd")
        strings = [""]
        for _ in range(len(wanted[0])):
            strings = [way + kind for way in strings for kind in "abcd"]
        self.assertEqual([way for way in strings if way in ways], wanted)

    def test_no_such(self):
        for ways in (Shortest(Room(P), Room(P, "bca")), Shortest(Room(P), Room(P))):
            for value in NO_NUMBERS:
                self.assertIs(caught(NoSuch, lambda: ways[value]).rank, value)

    def test_one_and_the_same_room(self):
        for plan in (P, Q, Plan(""), L):
            home = Room(plan)
            ways = Shortest(home, home)
            self.assertEqual((ways.total(), ways.size(), ways[0], ways.number_of("")), (1, 1, "", 0))
            self.assertEqual((ways.through(home), ways.exchanges("", "")), (1, 0))
            self.assertIs("" in ways, True)
            self.assertEqual(caught(NoSuch, lambda: ways[1]).rank, 1)
        ways = Shortest(Room(P, "ab"), Room(P, "ba"))
        self.assertEqual((ways.total(), ways.through(Room(P, "ab")), ways.through(Room(P))), (1, 1, 0))
        self.assertEqual(caught(NotShortest, lambda: ways.number_of("aa")).way, "aa")

    def test_attributes(self):
        one, other = Room(P, "a"), Room(P, "bca")
        ways = Shortest(other=other, one=one)
        self.assertEqual((ways.one, ways.other), (one, other))
        self.assertEqual((ways.through(room=one), ways.number_of(way=ways[0])), (ways.total(), 0))
        self.assertEqual(ways.exchanges(another=ways[0], way=ways[0]), 0)
        a, b = walls_between(one, other)[:2]
        self.assertIs(type(ways.forced(second=b, first=a)), bool)

    def test_other_plan(self):
        caught(OtherPlan, lambda: Shortest(Room(P), Room(D)))
        ways = Shortest(Room(P), Room(P, "ab"))
        caught(OtherPlan, lambda: ways.through(Room(D)))
        caught(OtherPlan, lambda: ways.through(Room(L)))


class ForcedTest(unittest.TestCase):

    def test_all_pairs_of_walls_between(self):
        dice = Random(3)
        forced = 0
        for near in all_floors():
            for one, other in some_pairs(dice, near, 5):
                ways = Shortest(near.room(one), near.room(other))
                along = [walls_along(near, one, way) for way in listed(near, one, other)]
                for first in along[0]:
                    for second in along[0]:
                        wanted = all(walls.index(first) < walls.index(second) for walls in along)
                        self.assertIs(ways.forced(near.wall(first), near.wall(second)), wanted)
                        forced += wanted
        self.assertGreater(forced, 100)

    def test_errors_in_their_order(self):
        home = Room(P)
        ways = Shortest(home, Room(P, "bca"))
        between, not_between, strange = Wall(home, "c"), Wall(home, "a"), Wall(Room(D), "c")
        self.assertIs(ways.forced(between, between), False)
        caught(OtherPlan, lambda: ways.forced(strange, between))
        caught(OtherPlan, lambda: ways.forced(strange, not_between))
        caught(OtherPlan, lambda: ways.forced(between, strange))
        for first, second, wall in (
            (not_between, strange, not_between), (not_between, between, not_between), (between, not_between, not_between),
            (not_between, not_between, not_between),
        ):
            self.assertIs(caught(NotBetween, lambda: ways.forced(first, second)).wall, wall)
        beyond = Wall(Room(P, "bca"), "c")
        self.assertIs(caught(NotBetween, lambda: ways.forced(beyond, not_between)).wall, beyond)
        self.assertIs(caught(NotBetween, lambda: ways.forced(not_between, beyond)).wall, not_between)


class ExchangesTest(unittest.TestCase):

    def test_pairs_of_walls_in_unlike_orders(self):
        dice = Random(4)
        for near in all_floors():
            for one, other in some_pairs(dice, near, 5):
                ways = Shortest(near.room(one), near.room(other))
                some = listed(near, one, other)
                for way in some[:6]:
                    for another in some[::3][:6]:
                        walls, its_walls = walls_along(near, one, way), walls_along(near, one, another)
                        wanted = sum(
                            its_walls.index(first) > its_walls.index(second) for first, second in combinations(walls, 2)
                        )
                        self.assertEqual(ways.exchanges(way, another), wanted)

    def test_by_steps_of_exchanges(self):
        plan = Plan("abcd", all_crossing("abcd"))
        ways = Shortest(Room(plan), Room(plan, "abcd"))
        self.assertEqual(ways.total(), 24)
        steps = {"abcd": 0}
        while len(steps) < 24:
            for way in list(steps):
                for at in range(3):
                    steps.setdefault(way[:at] + way[at + 1] + way[at] + way[at + 2:], steps[way] + 1)
        self.assertEqual({way: ways.exchanges("abcd", way) for way in steps}, steps)


class LimitsTest(unittest.TestCase):

    def box(self, one, other):
        plan = Plan("ab") * Plan("cd")
        return Room(plan), Room(plan, ("ab" * one)[:one] + ("cd" * other)[:other])

    def test_two_thousand_rooms(self):
        ways = Shortest(*self.box(39, 49))
        self.assertEqual(ways.size(), 2000)
        for one, other in ((22, 86), (199, 10), (43, 45), (198, 198)):
            self.assertEqual(caught(TooMany, lambda: Shortest(*self.box(one, other))).most, 2000)

    def test_ways_by_the_numbers_of_paths(self):
        ways = Shortest(*self.box(20, 30))
        total = 1
        for at in range(20):
            total = total * (50 - at) // (at + 1)
        self.assertEqual(ways.total(), total)
        self.assertEqual(ways[total - 1], "cd" * 15 + "ab" * 10)
        self.assertEqual(ways.exchanges(ways[0], ways[total - 1]), 600)
        for rank in (0, 1, total // 2, total - 1):
            self.assertEqual(ways.number_of(ways[rank]), rank)
        self.assertEqual(ways.through(ways.one), total)

    def test_far_apart(self):
        dice = Random(5)
        plan = Plan("abcdefgh", ring("abcdefgh"))
        one = Room(plan, "aceg" * 50)
        other = Room(plan, "hfdb" * 40 + "".join(dice.choice("aceg") for _ in range(40)))
        ways = Shortest(one, other)
        self.assertEqual(len(ways[0]), one.distance(other))
        self.assertEqual(one + ways[ways.total() - 1], other)
        walls = walls_between(one, other)
        self.assertIs(ways.forced(walls[0], walls[-1]) and ways.forced(walls[-1], walls[0]), False)
        chosen = Wall(one, ways[0][0])
        self.assertIs(ways.forced(chosen, chosen), False)


if __name__ == "__main__":
    unittest.main()
