"""[5], [23], with [2] and [53] as far as they speak of walls."""

import unittest
from random import Random

from crosswalls.errors import InvalidKind, OtherPlan
from crosswalls.plans import Plan
from crosswalls.rooms import Room
from crosswalls.walls import Wall, walls_between
from tests.examples import D, L, NO_KINDS, NO_STRINGS, P, Q, caught
from tests.floors import floor, ring, small_floors

WAYS_TO_LIE = {
    (True, True, True, True): "crosses",
    (True, True, True, False): "apart",
    (True, False, True, True): "ahead",
    (True, True, False, True): "behind",
    (True, False, False, True): "same",
}


def told(wall):
    return (wall.room.name, wall.kind)


def same_plan(plan):
    """An equal plan made apart, with its parts in other orders."""
    return Plan(plan.kinds[::-1], [pair[::-1] for pair in plan.pairs[::-1]])


class ExamplesTest(unittest.TestCase):

    def test_walls(self):
        home = Room(P)
        self.assertEqual(Wall(Room(P, "b"), "a"), Wall(home, "a"))
        self.assertEqual(Wall(Room(P, "bca"), "b").room.name, "")
        self.assertIs(Wall(home, "a").beyond(Room(P, "ab")), True)
        self.assertIs(Wall(home, "a").beyond(Room(P, "ca")), False)
        others = [Wall(home, "b"), Wall(home, "c"), Wall(Room(P, "a"), "c")]
        self.assertEqual([Wall(home, "a").lies(other) for other in others], ["crosses", "apart", "ahead"])
        self.assertEqual([told(wall) for wall in walls_between(home, Room(P, "bca"))], [("", "b"), ("", "c"), ("c", "a")])


class WallTest(unittest.TestCase):

    def test_attributes(self):
        room = Room(P, "bca")
        for wall in (Wall(room, "b"), Wall(kind="b", room=room)):
            self.assertEqual((wall.plan, wall.room, wall.kind), (P, Room(P), "b"))
            self.assertIs(type(wall.room), Room)
        self.assertEqual(room.name, "bca")

    def test_doors_of_one_wall_by_chains_of_steps(self):
        for near in small_floors():
            for (name, kind), told_by_steps in near.walls.items():
                wall = Wall(near.room(name), kind)
                self.assertEqual(told(wall), told_by_steps)
                self.assertEqual(wall, near.wall(told_by_steps))

    def test_equal_exactly_if_a_chain_leads_from_one_to_the_other(self):
        for near in small_floors(4, 2):
            walls = [(Wall(near.room(name), kind), number) for (name, kind), number in near.walls.items()]
            for one, number in walls:
                for other, its_number in walls:
                    self.assertIs(one == other, number == its_number)
                    self.assertIs(one != other, number != its_number)

    def test_equal_plans_made_apart(self):
        for plan in (P, Q, D, L):
            other = Room(same_plan(plan), "ab")
            wall = Wall(Room(plan, "ab"), "a")
            self.assertEqual(wall, Wall(other, "a"))
            self.assertEqual(wall.lies(Wall(other, "a")), "same")
            self.assertIs(wall.crosses(Wall(other, "b")), Wall(other, "b").crosses(wall))
            self.assertIs(wall.touches(other), True)
            self.assertIs(wall.beyond(other), Wall(other, "a").beyond(Room(plan, "ab")))
            self.assertEqual(walls_between(Room(plan), other), walls_between(Room(plan), Room(plan, "ab")))

    def test_unequal_to_others(self):
        wall = Wall(Room(P, "c"), "a")
        for value in NO_STRINGS + ["a", "", Wall(Room(P), "a"), Wall(Room(P, "c"), "c"), Wall(Room(D, "c"), "a")]:
            self.assertIs(wall == value, False)
            self.assertIs(wall != value, True)
        self.assertNotEqual(Wall(Room(L), "a"), Wall(Room(Plan("ab", ["ab"])), "a"))

    def test_invalid_kind(self):
        for value in NO_STRINGS + NO_KINDS + ["d"]:
            error = caught(InvalidKind, lambda: Wall(Room(P, "a"), value))
            self.assertIs(error.value, value)

    def test_beyond_and_touches(self):
        for near in small_floors(6, 3):
            for wall_told in near.every_wall[::5]:
                wall = near.wall(wall_told)
                for name in near.names[::2]:
                    self.assertIs(wall.beyond(near.room(name)), wall_told in near.beyond[name])
                    touching = near.walls[name, wall.kind] == wall_told
                    self.assertIs(wall.touches(near.room(name)), touching)

    def test_nearest_room(self):
        for near in small_floors(5, 3):
            for wall_told in near.every_wall:
                touching = [name for name in near.names if near.walls[name, wall_told[1]] == wall_told]
                least = min(len(name) for name in touching)
                self.assertEqual([name for name in touching if len(name) == least], [wall_told[0]])

    def test_crosses_and_lies_against_the_rooms_on_the_sides(self):
        # A wall's sides in the floor up to twice the distance of its room tell how it lies.
        for near in small_floors(7, 4):
            walls = [wall for wall in near.every_wall if 2 * len(wall[0]) + 2 <= near.far][:60]
            sides = {wall: [wall in near.beyond[name] for name in near.names] for wall in walls}
            for one in walls:
                for other in walls:
                    met = set(zip(sides[one], sides[other]))
                    how = tuple((a, b) in met for a in (False, True) for b in (False, True))
                    self.assertEqual(near.wall(one).lies(near.wall(other)), WAYS_TO_LIE[how])
                    self.assertIs(near.wall(one).crosses(near.wall(other)), all(how))

    def test_walls_of_kinds_that_cross_need_not_cross(self):
        one, other = Wall(Room(Q), "a"), Wall(Room(Q, "c"), "a")
        self.assertEqual((one.crosses(other), one.lies(other)), (False, "apart"))
        one, other = Wall(Room(P, "a"), "c"), Wall(Room(P), "b")
        self.assertIs(one.crosses(other), True)
        plan = Plan("abcd", ["ab"])
        one, other = Wall(Room(plan, "c"), "a"), Wall(Room(plan, "d"), "b")
        self.assertEqual((one.crosses(other), one.lies(other)), (False, "apart"))

    def test_other_plan(self):
        room, other = Room(P, "a"), Room(D, "a")
        wall = Wall(room, "b")
        caught(OtherPlan, lambda: wall.beyond(other))
        caught(OtherPlan, lambda: wall.touches(other))
        caught(OtherPlan, lambda: wall.crosses(Wall(other, "b")))
        caught(OtherPlan, lambda: wall.crosses(Wall(other, "a")))
        caught(OtherPlan, lambda: wall.lies(Wall(other, "b")))
        caught(OtherPlan, lambda: walls_between(room, other))
        caught(OtherPlan, lambda: walls_between(one=other, other=room))
        self.assertIs(wall == Wall(other, "b"), False)

    def test_results_are_bools(self):
        wall = Wall(Room(P), "a")
        for value in (wall.beyond(room=Room(P)), wall.touches(room=Room(P)), wall.crosses(other=wall), wall == wall):
            self.assertIs(type(value), bool)
        self.assertEqual(wall.lies(other=wall), "same")


class BetweenTest(unittest.TestCase):

    def test_as_many_as_the_distance_and_in_order(self):
        for near in small_floors(4, 3):
            for one in near.names[::3]:
                for other in near.names[::2]:
                    walls = walls_between(near.room(one), near.room(other))
                    self.assertIs(type(walls), list)
                    wanted = near.beyond[one] ^ near.beyond[other]
                    self.assertEqual(len(walls), near.room(one).distance(near.room(other)))
                    wanted = sorted(wanted, key=lambda wall: (len(wall[0]), wall[0], wall[1]))
                    self.assertEqual([told(wall) for wall in walls], wanted)

    def test_none(self):
        self.assertEqual(walls_between(Room(P, "ab"), Room(P, "ba")), [])
        self.assertEqual(walls_between(Room(Plan("")), Room(Plan(""))), [])

    def test_new_list(self):
        one, other = Room(P), Room(P, "ab")
        walls_between(one, other).clear()
        self.assertEqual(len(walls_between(one, other)), 2)

    def test_two_hundred_apart(self):
        dice = Random(3)
        plan = Plan("abcdefgh", ring("abcdefgh"))
        start = Room(plan, "".join(dice.choice("aceg") for _ in range(400)))
        one = start + "".join(dice.choice("bdfh") for _ in range(150))
        other = start + "".join(dice.choice("abcdefgh") for _ in range(180))
        walls = walls_between(one, other)
        self.assertEqual(len(walls), one.distance(other))
        keys = [(len(wall.room), wall.room.name, wall.kind) for wall in walls]
        self.assertEqual(keys, sorted(set(keys)))
        for wall in walls[::20]:
            self.assertIsNot(wall.beyond(one), wall.beyond(other))
            self.assertTrue(wall.touches(wall.room) and wall.touches(wall.room[wall.kind]))

    def test_long_names(self):
        far = Room(L, "ab" * 1000)
        self.assertEqual(told(Wall(far, "a")), ("ab" * 1000, "a"))
        self.assertEqual(told(Wall(far, "b")), ("ab" * 999 + "a", "b"))
        walls = walls_between(far, Room(L, "ab" * 950))
        self.assertEqual([len(wall.room) for wall in walls], list(range(1900, 2000)))

    def test_rooms_on_the_way_that_are_too_long_for_a_room(self):
        # The least way begins with the doors a and b, and so comes to names of 2,040 letters.
        plan = Plan("abcd", ["ac", "ad", "bc", "bd"])
        one, other = Room(plan, "cd" * 1000), Room(plan, "ab" * 20 + "cd" * 970)
        walls = walls_between(one, other)
        wanted = [("ab" * 20)[:at] for at in range(40)] + [("cd" * 1000)[:at] for at in range(1940, 2000)]
        self.assertEqual([wall.room.name for wall in walls], wanted)


class FloorTest(unittest.TestCase):
    """That the plain walk itself is right where it can be told by hand."""

    def test_squares(self):
        near = floor("abcd", ring("abcd"), 5)
        counts = [sum(len(name) == distance for name in near.names) for distance in range(6)]
        self.assertEqual(counts, [1, 4, 8, 12, 16, 20])
        self.assertEqual(near.names[:9], ["", "a", "b", "c", "d", "ab", "ac", "ad", "bc"])
        self.assertEqual(near.walls["b", "a"], ("", "a"))
        self.assertEqual(near.beyond["ab"], {("", "a"), ("", "b")})


if __name__ == "__main__":
    unittest.main()
