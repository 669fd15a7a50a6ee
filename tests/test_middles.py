"""[6], [24], with [2] and [53] as far as they speak of lists of rooms."""

import inspect
import unittest
from itertools import product
from random import Random

from crosswalls.errors import InvalidWeights, NoneBeyond, NoRooms, OtherPlan, TooMany
from crosswalls.middles import (
    beyond_both, centre, centres, common, gate, hull, in_hull, least_total, middle,
)
from crosswalls.plans import Plan
from crosswalls.rooms import Room
from crosswalls.walls import Wall, walls_between
from tests.examples import D, P, caught
from tests.floors import all_crossing, floor, ring, small_floors

HUGE = 10 ** 100


def names(rooms):
    return [room.name for room in rooms]


def named(plan, names):
    return [Room(plan, name) for name in names]


def told(wall):
    return (wall.room.name, wall.kind)


def some_lists(dice, near, distance, many):
    """Lists of one to many rooms, not farther from home than distance; some stand there twice."""
    for length in range(1, many + 1):
        yield [dice.choice(near.within(distance)) for _ in range(length)]
    yield [dice.choice(near.within(distance))] * 2 + [dice.choice(near.within(distance))] * 2


class ExamplesTest(unittest.TestCase):

    def test_middles(self):
        home, a, b, c, ab = named(P, ["", "a", "b", "c", "ab"])
        self.assertEqual(middle(b, ab, a).name, "ab")
        self.assertEqual(common(ab, Room(P, "bc")).name, "b")
        self.assertEqual(beyond_both(a, b).name, "ab")
        error = caught(NoneBeyond, lambda: beyond_both(a, c))
        self.assertEqual((error.one, error.other), (Wall(home, "a"), Wall(home, "c")))
        self.assertEqual(gate(Room(P, "ca"), [home, b]).name, "")
        self.assertEqual(names(hull([a, b])), ["", "a", "b", "ab"])

    def test_centres(self):
        rooms = named(P, ["", "ab"])
        self.assertEqual(least_total(rooms), 2)
        self.assertEqual(names(centres(rooms)), ["", "a", "b", "ab"])
        self.assertEqual(least_total(rooms, [1, HUGE]), 2)
        self.assertEqual(names(centres(rooms, [1, HUGE])), ["ab"])


class MiddleTest(unittest.TestCase):

    def test_walls_beyond_which_two_of_three_are(self):
        dice = Random(1)
        for near in small_floors():
            inner = near.within(near.far // 2)
            for _ in range(60):
                three = [dice.choice(inner) for _ in range(3)]
                one, two, other = [near.beyond[name] for name in three]
                found = middle(*[near.room(name) for name in three])
                self.assertEqual(near.beyond[found.name], one & two | one & other | two & other)

    def test_common(self):
        dice = Random(2)
        for near in small_floors():
            for _ in range(60):
                one, other = dice.choice(near.names), dice.choice(near.names)
                found = common(near.room(one), near.room(other))
                self.assertEqual(near.beyond[found.name], near.beyond[one] & near.beyond[other])

    def first_not_crossing(self, near, one, other):
        """The first two walls that do not cross, found by their sides."""
        alone = [
            [wall for wall in near.every_wall if wall in near.beyond[name] and wall not in near.beyond[beside]]
            for name, beside in ((one, other), (other, one))
        ]
        met = {tuple(wall in near.beyond[name] for wall in pair) + pair for name in near.names for pair in product(*alone)}
        return next((pair for pair in product(*alone) if (True, True) + pair not in met), None)

    def test_beyond_both(self):
        failed = 0
        for near in small_floors(6, 4):
            inner = near.within(near.far // 2)[:24]
            for one, other in product(inner, inner):
                pair = self.first_not_crossing(near, one, other)
                deed = lambda: beyond_both(near.room(one), near.room(other))
                if pair is None:
                    self.assertEqual(near.beyond[deed().name], near.beyond[one] | near.beyond[other])
                else:
                    error = caught(NoneBeyond, deed)
                    self.assertEqual((told(error.one), told(error.other)), pair)
                    failed += 1
        self.assertGreater(failed, 1000)

    def test_the_first_walls_are_not_always_those_that_do_not_cross(self):
        # The walls of a and b at home cross all of the walls on the way to cd and ce.
        plan = Plan("abcdef", ["ac", "ad", "ae", "af", "bc", "bd", "be", "bf", "ab", "cd", "ce", "cf", "ef"])
        error = caught(NoneBeyond, lambda: beyond_both(Room(plan, "acd"), Room(plan, "bef")))
        self.assertEqual((told(error.one), told(error.other)), (("", "d"), ("", "e")))
        error = caught(NoneBeyond, lambda: beyond_both(Room(plan, "bef"), Room(plan, "acd")))
        self.assertEqual((told(error.one), told(error.other)), (("", "e"), ("", "d")))

    def test_the_first_wall_is_the_first_one_by_its_room(self):
        # On the way "cab" the walls are passed in another order than that of walls_between.
        plan = Plan("abcd", ["bc", "cd"])
        one, other = Room(plan, "ab"), Room(plan, "d")
        error = caught(NoneBeyond, lambda: beyond_both(one, other))
        self.assertEqual((told(error.one), told(error.other)), (("", "a"), ("", "d")))

    def test_long_ways(self):
        dice = Random(3)
        plan = Plan("abcdefgh", ring("abcdefgh"))
        for _ in range(3):
            one, two, three = ["".join(dice.choice(plan.kinds) for _ in range(200)) for _ in range(3)]
            start = Room(plan, one)
            two, three = start + two, start + three
            found = middle(two, start, three)
            for a, b in ((start, two), (start, three), (two, three)):
                self.assertEqual(a.distance(found) + found.distance(b), a.distance(b))
            error = caught(NoneBeyond, lambda: beyond_both(two, three))
            self.assertTrue(error.one.beyond(two) and not error.one.beyond(three))
            self.assertTrue(error.other.beyond(three) and not error.other.beyond(two))
            self.assertFalse(error.one.crosses(error.other))

    def test_beyond_both_far_from_home(self):
        # All but the last walls of both ways cross one another.
        plan = Plan("abcdef", ["ac", "ad", "bc", "bd", "ae", "be", "cf", "df"])
        one, other = Room(plan, "ab" * 199 + "f"), Room(plan, "cd" * 199 + "e")
        error = caught(NoneBeyond, lambda: beyond_both(one, other))
        self.assertEqual((told(error.one), told(error.other)), (("ab" * 199, "f"), ("cd" * 199, "e")))
        found = beyond_both(Room(plan, "ab" * 200), Room(plan, "cd" * 200))
        self.assertEqual(found.name, "ab" * 200 + "cd" * 200)

    def test_other_plan(self):
        one, other = Room(P), Room(D)
        for rooms in ((one, one, other), (one, other, one), (other, one, one)):
            caught(OtherPlan, lambda: middle(*rooms))
        caught(OtherPlan, lambda: common(one, other))
        caught(OtherPlan, lambda: beyond_both(one, other))

    def test_arguments_by_name(self):
        a, b, ab = named(P, ["a", "b", "ab"])
        self.assertEqual(middle(three=a, one=b, two=ab), ab)
        self.assertEqual(common(other=b, one=ab), b)
        self.assertEqual(beyond_both(other=b, one=a), ab)


class HullTest(unittest.TestCase):

    def test_against_the_least_closed_set(self):
        dice = Random(4)
        for near in small_floors(6, 4):
            for _ in range(4):
                rooms = [dice.choice(near.within(near.far // 2)) for _ in range(2)]
                self.assertEqual(names(hull(named(near.plan, rooms))), near.hull(rooms))

    def test_of_more_rooms(self):
        dice = Random(5)
        for near in small_floors(8, 6):
            for rooms in some_lists(dice, near, near.far // 4, 4):
                wanted = near.hull(rooms)
                self.assertEqual(names(hull(named(near.plan, rooms))), wanted)
                for name in near.within(near.far // 2):
                    self.check_room(near, name, rooms, wanted)

    def check_room(self, near, name, rooms, wanted):
        room = near.room(name)
        self.assertIs(in_hull(room, named(near.plan, rooms)), name in wanted)
        found = gate(room, named(near.plan, rooms))
        least = min(near.distance(name, other) for other in wanted)
        self.assertEqual([other for other in wanted if near.distance(name, other) == least], [found.name])
        for other in wanted:
            self.assertEqual(near.distance(name, other), least + near.distance(found.name, other))

    def test_most(self):
        rooms = named(P, ["a", "b"])
        self.assertEqual(len(hull(rooms, most=4)), 4)
        error = caught(TooMany, lambda: hull(rooms, most=3))
        self.assertEqual(error.most, 3)
        self.assertEqual(names(hull([rooms[0]], most=1)), ["a"])
        self.assertEqual(caught(TooMany, lambda: hull(rooms, most=1)).most, 1)
        self.assertEqual(inspect.signature(hull).parameters["most"].kind, inspect.Parameter.KEYWORD_ONLY)

    def test_most_is_two_thousand_by_default(self):
        plan = Plan("abcd", ["ac", "ad", "bc", "bd"])
        rooms = [Room(plan), Room(plan, "ab" * 12 + "cd" * 39 + "c")]
        self.assertEqual(len(hull(rooms)), 25 * 80)
        rooms = [Room(plan), Room(plan, "ab" * 14 + "cd" * 34)]
        self.assertEqual(caught(TooMany, lambda: hull(rooms)).most, 2000)
        self.assertEqual(len(hull(rooms, most=2001)), 29 * 69)

    def test_huge_hulls_are_given_up_at_once(self):
        pairs = [pair for pair in all_crossing("abcdefgh") if pair not in ("ab", "cd", "ef", "gh")]
        plan = Plan("abcdefgh", pairs)
        rooms = [Room(plan), Room(plan, "ab" * 50 + "cd" * 50 + "ef" * 50 + "gh" * 50)]
        self.assertEqual(caught(TooMany, lambda: hull(rooms)).most, 2000)

    def test_new_list_and_unchanged_arguments(self):
        rooms = named(P, ["ab", "a", "ab"])
        hull(rooms).clear()
        self.assertEqual(names(hull(tuple(rooms))), ["a", "ab"])
        self.assertEqual(names(rooms), ["ab", "a", "ab"])

    def test_errors(self):
        one, other = Room(P), Room(D)
        for deed in (
            lambda rooms: gate(one, rooms), lambda rooms: in_hull(one, rooms), lambda rooms: hull(rooms),
            lambda rooms: least_total(rooms), lambda rooms: centres(rooms), lambda rooms: centre(rooms),
            lambda rooms: least_total(rooms, None), lambda rooms: centres(rooms, "no weights", most=1),
            lambda rooms: centre(rooms, [0, 0]), lambda rooms: least_total(rooms, 1), lambda rooms: hull(rooms, most=1),
        ):
            for rooms in ([], ()):
                caught(NoRooms, lambda: deed(rooms))
            for rooms in ([one, other], [one, one, other, one], (other, one)):
                caught(OtherPlan, lambda: deed(rooms))
        for deed in (gate, in_hull):
            caught(OtherPlan, lambda: deed(one, [other]))
            caught(OtherPlan, lambda: deed(room=other, rooms=[one]))
            caught(NoRooms, lambda: deed(other, []))

    def test_far_rooms(self):
        dice = Random(6)
        plan = Plan("abcdefgh", ring("abcdefgh"))
        start = "".join(dice.choice(plan.kinds) for _ in range(380))
        rooms = [Room(plan, start) + "".join(dice.choice(plan.kinds) for _ in range(20)) for _ in range(12)]
        found = hull(rooms)
        self.assertTrue(all(room in found for room in rooms))
        self.assertEqual([room.name for room in found], sorted(names(found), key=lambda name: (len(name), name)))
        far = Room(plan, "hgfedcb" * 57)
        found_gate = gate(far, rooms)
        self.assertEqual(far.distance(found_gate), min(far.distance(room) for room in found))
        self.assertIs(in_hull(far, rooms), False)
        self.assertIs(in_hull(found_gate, rooms), True)


class CentresTest(unittest.TestCase):

    def total(self, near, name, rooms, weights):
        return sum(weight * near.distance(name, other) for other, weight in zip(rooms, weights))

    def check(self, near, rooms, weights, used):
        totals = {name: self.total(near, name, rooms, used) for name in near.names}
        least = min(totals.values())
        wanted = [name for name in near.names if totals[name] == least]
        listed = named(near.plan, rooms)
        self.assertEqual(least_total(listed, weights), least)
        self.assertEqual(names(centres(listed, weights)), wanted)
        self.assertEqual(centre(listed, weights).name, wanted[0])

    def test_against_all_rooms_near_by(self):
        dice = Random(7)
        for near in small_floors(7, 5):
            for rooms in some_lists(dice, near, near.far // 3, 5):
                ones = [1] * len(rooms)
                self.check(near, rooms, None, ones)
                self.check(near, rooms, ones, ones)
                few = [dice.randrange(1, 4) for _ in rooms]
                self.check(near, rooms, few, few)
                huge = [HUGE + dice.randrange(2) for _ in rooms]
                self.check(near, rooms, tuple(huge), huge)
                mixed = [dice.choice([1, HUGE - 1, HUGE]) for _ in rooms]
                self.check(near, tuple(rooms), mixed, mixed)

    def test_rooms_that_stand_several_times(self):
        rooms = named(P, ["", "ab", "ab", ""])
        self.assertEqual((least_total(rooms), len(centres(rooms))), (4, 4))
        self.assertEqual((least_total(rooms[:3]), names(centres(rooms[:3]))), (2, ["ab"]))
        self.assertEqual(names(centres(rooms, [1, 1, 1, 2])), [""])
        self.assertEqual(names(centres(rooms, [1, 2, 3, 4])), ["", "a", "b", "ab"])

    def test_default_weights(self):
        rooms = named(P, ["", "ab"])
        self.assertEqual(least_total(weights=None, rooms=rooms), 2)
        self.assertEqual(centre(weights=[1, 2], rooms=rooms).name, "ab")
        self.assertEqual(names(centres(weights=[2, 1], rooms=rooms, most=1)), [""])
        self.assertEqual(inspect.signature(centres).parameters["most"].kind, inspect.Parameter.KEYWORD_ONLY)

    def test_most(self):
        rooms = named(P, ["", "ab"])
        self.assertEqual(len(centres(rooms, most=4)), 4)
        self.assertEqual(caught(TooMany, lambda: centres(rooms, most=3)).most, 3)
        plan = Plan("abcd", ["ac", "ad", "bc", "bd"])
        rooms = [Room(plan), Room(plan, "ab" * 14 + "cd" * 34)]
        self.assertEqual(caught(TooMany, lambda: centres(rooms)).most, 2000)
        self.assertEqual(len(centres(rooms, most=2001)), 2001)
        self.assertEqual((centre(rooms).name, least_total(rooms)), ("", 96))

    def test_invalid_weights(self):
        rooms = named(P, ["", "ab"])
        wrong = [
            [], [1], [1, 1, 1], (1,), [1, 0], [0, 1], [1, -1], [1, True], [True, 1], [False, 1], [1, 1.0], [1, 2.5],
            [1, "1"], ["1", "2"], [1, None], [None, None], [[1], [1]], "11", "", 2, 1, True, False, 0, {}, {1: 1, 2: 2},
            Room(P), P, 1.5,
        ]
        for value in wrong:
            for deed in (least_total, centres, centre):
                self.assertIs(caught(InvalidWeights, lambda: deed(rooms, value)).value, value)
            self.assertIs(caught(InvalidWeights, lambda: centres(rooms, value, most=1)).value, value)
        caught(InvalidWeights, lambda: least_total([rooms[0]], [1, 1]))

    def test_far_rooms_and_huge_weights(self):
        dice = Random(8)
        plan = Plan("abcdefgh", ring("abcdefgh"))
        rooms = [Room(plan, "".join(dice.choice(plan.kinds) for _ in range(400))) for _ in range(12)]
        weights = [HUGE + dice.randrange(HUGE) for _ in rooms]
        first = centre(rooms, weights)
        least = sum(weight * first.distance(room) for weight, room in zip(weights, rooms))
        self.assertEqual(least_total(rooms, weights), least)
        for kind in plan.kinds:
            beside = first[kind]
            total = sum(weight * beside.distance(room) for weight, room in zip(weights, rooms))
            self.assertGreaterEqual(total, least)
        self.assertEqual(centres(rooms, weights)[0], first)
        self.assertEqual(len(walls_between(first, first)), 0)

    def test_plan_without_kinds(self):
        home = Room(Plan(""))
        self.assertEqual((least_total([home, home]), centres([home]), hull([home])), (0, [home], [home]))
        self.assertEqual((middle(home, home, home), gate(home, [home]), beyond_both(home, home)), (home, home, home))


class FloorHullTest(unittest.TestCase):

    def test_the_least_closed_set_of_the_tests(self):
        near = floor("abc", ("ab", "bc"), 5)
        self.assertEqual(near.hull(["a", "b"]), ["", "a", "b", "ab"])
        self.assertEqual(near.hull(["a", "c"]), ["", "a", "c"])


if __name__ == "__main__":
    unittest.main()
