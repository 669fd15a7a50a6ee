"""[7], [25], with [2] and [53] as far as they speak of blocks, bridges and corners."""

import unittest
from itertools import combinations, product
from random import Random

from crosswalls.blocks import Block, Bridge, bridge, coordinates, corner
from crosswalls.errors import Endless, InvalidKind, NotCrossing, NoWalls, OtherPlan, SameKind, TooLong
from crosswalls.plans import Plan
from crosswalls.rooms import Room, is_name
from crosswalls.walls import Wall
from tests.examples import D, L, NO_STRINGS, P, Q, caught
from tests.floors import all_crossing, ring, small_floors


def subsets(kinds):
    return ["".join(chosen) for many in range(len(kinds) + 1) for chosen in combinations(kinds, many)]


def reached(near, name, kinds):
    """The names of the rooms near home to which ways of these kinds lead."""
    found = [name]
    for start in found:
        beside = [near.behind[start].get(kind) for kind in kinds]
        found.extend(other for other in beside if other is not None and other not in found)
    return [other for other in near.names if other in found]


def told(block):
    return (block.room.name, block.kinds)


def some_blocks(dice, near, distance, many):
    """Blocks of rooms near home, with the names of their rooms."""
    for _ in range(many):
        name = dice.choice(near.within(distance))
        kinds = dice.choice(subsets(near.plan.kinds))
        yield Block(near.room(name), kinds), reached(near, name, kinds)


class ExamplesTest(unittest.TestCase):

    def test_blocks(self):
        home = Room(P)
        block = Block(Room(P, "bca"), "ba")
        self.assertEqual((block.room.name, block.kinds, block.many), ("c", "ab", 4))
        self.assertEqual([room.name for room in block.listed()], ["c", "bc", "ca", "bca"])
        self.assertIsNone(Block(home, "ac").many)
        self.assertEqual(Block(home, "ab") & Block(Room(P, "b"), "cb"), Block(home, "b"))
        self.assertEqual(corner([Wall(Room(P, "c"), "a"), Wall(home, "b")]), Block(Room(P, "c"), "ab"))

    def test_bridges(self):
        home = Room(P)
        one, other = Block(home, "b"), Block(Room(P, "ca"), "b")
        found = bridge(one, other)
        self.assertEqual((found.way, found.kinds, found.one, found.other), ("ca", "b", one, other))
        found = bridge(Block(home, "a"), Block(Room(P, "c"), "a"))
        wanted = ("c", "", Block(home, ""), Block(Room(P, "c"), ""))
        self.assertEqual((found.way, found.kinds, found.one, found.other), wanted)

    def test_coordinates(self):
        self.assertEqual(P.parts(), ("ac", "b"))
        self.assertEqual(coordinates(Room(P, "bca")), ("ca", "b"))


class BlockTest(unittest.TestCase):

    def test_attributes(self):
        room = Room(P, "bca")
        for block in (Block(room, "ba"), Block(room, "ab"), Block(kinds="ba", room=room)):
            self.assertEqual((block.plan, block.room, block.kinds, block.many), (P, Room(P, "c"), "ab", 4))
        self.assertEqual((told(Block(room, "")), Block(room, "").many), (("bca", ""), 1))
        self.assertEqual((told(Block(room, "cba")), Block(room, "abc").many), (("", "abc"), None))

    def test_the_same_block_from_each_of_its_rooms(self):
        for near in small_floors(4, 3):
            for name in near.names[::4]:
                for kinds in subsets(near.plan.kinds)[::2]:
                    rooms = reached(near, name, kinds)
                    block = Block(near.room(name), kinds[::-1])
                    self.assertEqual(told(block), (rooms[0], kinds))
                    for other in rooms:
                        self.assertEqual(Block(near.room(other), kinds), block)

    def test_rooms(self):
        dice = Random(1)
        for near in small_floors():
            for block, rooms in some_blocks(dice, near, near.far, 12):
                self.assertEqual([name for name in near.names if near.room(name) in block], rooms)

    def test_in_with_any_value(self):
        block = Block(Room(P, "c"), "ab")
        self.assertIs(Room(P, "bca") in block, True)
        self.assertIs(Room(Plan("cba", ["bc", "ba"]), "acb") in block, False)
        self.assertIs(Room(Plan("cba", ["bc", "ba"]), "bca") in block, True)
        self.assertIs(Room(D, "c") in block, False)
        for value in NO_STRINGS + ["c", "bca", "", block, Wall(Room(P), "a")]:
            self.assertIs(value in block, False)

    def test_equal(self):
        dice = Random(2)
        for near in small_floors(4, 3):
            some = list(some_blocks(dice, near, near.far, 12))
            for one, other in product(some, some):
                # Blocks of unequal kinds are unequal, though those near home might be alike.
                same = one[1] == other[1] and one[0].kinds == other[0].kinds
                self.assertIs(one[0] == other[0], same)
                self.assertIs(one[0] != other[0], not same)

    def test_unequal_to_others(self):
        block = Block(Room(P), "a")
        for value in NO_STRINGS + ["a", Room(P), Wall(Room(P), "a"), Block(Room(D), "a"), Block(Room(L), "a")]:
            self.assertIs(block == value, False)
        self.assertEqual(block, Block(Room(Plan("cab", ["cb", "ba"]), "a"), "a"))

    def test_invalid_kinds(self):
        room = Room(P, "a")
        for value in NO_STRINGS:
            self.assertIs(caught(InvalidKind, lambda: Block(room, value)).value, value)
        for value, letter in (("d", "d"), ("ad", "d"), ("abX-", "X"), ("adaa", "d"), (" ", " "), ("da", "d"), ("zz", "z")):
            self.assertEqual(caught(InvalidKind, lambda: Block(room, value)).value, letter)
        for value, letter in (("aa", "a"), ("aba", "a"), ("abbad", "b"), ("cbac", "c"), ("abcb-", "b")):
            self.assertEqual(caught(SameKind, lambda: Block(room, value)).kind, letter)
        caught(InvalidKind, lambda: Block(Room(Plan("")), "a"))
        self.assertEqual(Block(Room(Plan("")), "").many, 1)

    def test_many_and_listed(self):
        for near in small_floors(5, 3):
            plan = near.plan
            for kinds in subsets(plan.kinds):
                for name in near.names[:6]:
                    block = Block(near.room(name), kinds)
                    if all(plan.crosses(one, other) for one, other in combinations(kinds, 2)):
                        self.assertEqual(block.many, 2 ** len(kinds))
                        self.check_listed(block)
                    else:
                        self.assertIsNone(block.many)
                        caught(Endless, block.listed)

    def check_listed(self, block):
        rooms = block.listed()
        self.assertIs(type(rooms), list)
        names = [room.name for room in rooms]
        wanted = {(block.room + way).name for way in subsets(block.kinds)}
        self.assertEqual(names, sorted(wanted, key=lambda name: (len(name), name)))
        self.assertEqual(len(names), block.many)
        rooms.clear()
        self.assertEqual(len(block.listed()), block.many)

    def test_rooms_that_are_too_long(self):
        # Such blocks are made, but their rooms are not.
        plan = Plan("abc", ["bc"])
        block = Block(Room(plan, "ab" * 999 + "ac"), "bc")
        self.assertEqual((len(block.room), block.many), (1999, 4))
        self.assertEqual(caught(TooLong, block.listed).length, 2001)

    def test_part_of(self):
        dice = Random(3)
        for near in small_floors(6, 4):
            some = list(some_blocks(dice, near, 2, 16))
            for (one, its_rooms), (other, rooms) in product(some, some):
                within = one.kinds == "".join(kind for kind in one.kinds if kind in other.kinds)
                self.assertIs(one <= other, within and set(its_rooms) <= set(rooms))

    def test_part_of_reads_all_rooms(self):
        self.assertIs(Block(Room(P, "c"), "a") <= Block(Room(P), "ac"), True)
        self.assertIs(Block(Room(P, "c"), "ab") <= Block(Room(P), "ac"), False)
        self.assertIs(Block(Room(P), "ac") <= Block(Room(P), "a"), False)
        self.assertIs(Block(Room(P, "c"), "") <= Block(Room(P), "c"), True)
        self.assertIs(Block(Room(P, "c"), "c") <= Block(Room(P), ""), False)
        self.assertIs(Block(Room(P, "c"), "a") <= Block(Room(P), "a"), False)

    def test_both(self):
        dice = Random(4)
        none = 0
        for near in small_floors():
            some = list(some_blocks(dice, near, near.far // 3 + 1, 10))
            for (one, its_rooms), (other, rooms) in product(some, some):
                wanted = [name for name in its_rooms if name in rooms]
                found = one & other
                if not wanted:
                    self.assertIsNone(found)
                    none += 1
                else:
                    kinds = "".join(kind for kind in one.kinds if kind in other.kinds)
                    self.assertEqual(told(found), (wanted[0], kinds))
                    self.assertEqual([name for name in near.names if near.room(name) in found], wanted)
        self.assertGreater(none, 100)

    def test_nearest(self):
        dice = Random(5)
        for near in small_floors(6, 4):
            for block, rooms in some_blocks(dice, near, near.far // 4 + 1, 8):
                for name in near.within(near.far // 4 + 1):
                    least = min(near.distance(name, other) for other in rooms)
                    wanted = [other for other in rooms if near.distance(name, other) == least]
                    self.assertEqual([block.nearest(near.room(name)).name], wanted)

    def test_other_plan(self):
        one, other = Block(Room(P), "ab"), Block(Room(D), "ab")
        caught(OtherPlan, lambda: one <= other)
        caught(OtherPlan, lambda: one & other)
        caught(OtherPlan, lambda: one.nearest(Room(D)))
        caught(OtherPlan, lambda: one.nearest(room=Room(L)))
        caught(OtherPlan, lambda: bridge(one, other))
        self.assertIs(one == other, False)

    def test_far_rooms(self):
        dice = Random(6)
        plan = Plan("abcdefgh", ring("abcdefgh"))
        room = Room(plan, "".join(dice.choice(plan.kinds) for _ in range(400)))
        block = Block(room, "bdfh")
        self.assertTrue(room in block and block.room in block and block.room + "hfdb" * 100 in block)
        far = Room(plan, "".join(dice.choice(plan.kinds) for _ in range(400)))
        gate = block.nearest(far)
        self.assertIn(gate, block)
        for kind in "bdfh":
            self.assertGreater(far.distance(gate[kind]), far.distance(gate))


class BridgeTest(unittest.TestCase):

    def test_against_all_pairs(self):
        dice = Random(7)
        for near in small_floors(8, 5):
            some = list(some_blocks(dice, near, 2, 6))
            for (one, its_rooms), (other, rooms) in product(some, some):
                self.check(near, one, other, its_rooms, rooms)

    def check(self, near, one, other, its_rooms, rooms):
        found = bridge(one, other)
        least = min(near.distance(a, b) for a in its_rooms[:40] for b in rooms[:40])
        pairs = [(a, b) for a in its_rooms for b in rooms if near.distance(a, b) == least]
        self.assertEqual(len(found.way), least)
        for at, block in enumerate((found.one, found.other)):
            self.assertIs(type(block), Block)
            self.assertEqual(block.kinds, found.kinds)
            nearest = sorted({pair[at] for pair in pairs}, key=lambda name: (len(name), name))
            # Rooms at the rim have their partners out of the walk.
            inner = [name for name in near.names if len(name) < near.far - 2 and near.room(name) in block]
            self.assertEqual([name for name in nearest if len(name) < near.far - 2], inner)
        for a, b in pairs[:5]:
            self.assertEqual(near.room(a).way_to(near.room(b)), found.way)
        plan = near.plan
        shared = [kind for kind in one.kinds if kind in other.kinds]
        wanted = [kind for kind in shared if all(plan.crosses(kind, letter) for letter in found.way)]
        self.assertEqual(found.kinds, "".join(wanted))

    def test_equal(self):
        home, far = Block(Room(P), "b"), Block(Room(P, "ca"), "b")
        self.assertEqual(bridge(home, far), bridge(other=far, one=home))
        self.assertIs(type(bridge(home, far)), Bridge)
        self.assertNotEqual(bridge(home, far), bridge(far, home))
        self.assertNotEqual(bridge(home, far), bridge(home, Block(Room(P, "c"), "b")))
        self.assertNotEqual(bridge(home, far), bridge(Block(Room(P, "a"), "b"), far))
        for value in NO_STRINGS + [home, "ca", ("ca", "b")]:
            self.assertIs(bridge(home, far) == value, False)

    def test_blocks_with_a_room_in_common(self):
        one, other = Block(Room(P), "ab"), Block(Room(P, "b"), "cb")
        found = bridge(one, other)
        self.assertEqual((found.way, found.kinds, found.one), ("", "b", one & other))
        self.assertEqual(found.one, found.other)

    def test_the_way_is_a_name(self):
        plan = Plan("abc", ["ab", "bc", "ac"])
        found = bridge(Block(Room(plan, "c"), ""), Block(Room(plan, "ab"), ""))
        self.assertEqual(found.way, "abc")


class CornerTest(unittest.TestCase):

    def wanted(self, near, walls):
        """The nearest room to home with a block as it should be."""
        kinds = "".join(sorted(wall[1] for wall in walls))
        for name in near.names:
            rooms = [near.room(name) + way for way in subsets(kinds)]
            if all(near.wall(wall).touches(room) for room in rooms for wall in walls):
                return (name, kinds)
        return None

    def test_walls_near_by(self):
        for near in small_floors(6, 5):
            walls = [wall for wall in near.every_wall if len(wall[0]) < 3][:14]
            for many in (1, 2, 3):
                for chosen in combinations(walls, many):
                    listed = [near.wall(wall) for wall in chosen]
                    pair = next(((one, other) for one, other in combinations(listed, 2) if not one.crosses(other)), None)
                    if pair is None:
                        self.assertEqual(told(corner(listed)), self.wanted(near, chosen))
                        self.assertEqual(told(corner(tuple(listed[::-1]))), self.wanted(near, chosen))
                    else:
                        error = caught(NotCrossing, lambda: corner(listed))
                        self.assertEqual((error.one, error.other), pair)

    def test_one_wall(self):
        self.assertEqual(told(corner([Wall(Room(Q, "acb"), "d")])), ("b", "d"))
        self.assertEqual(told(corner(walls=[Wall(Room(Q), "d")])), ("", "d"))

    def test_eight_walls(self):
        plan = Plan("abcdefgh", all_crossing("abcdefgh"))
        walls = [Wall(Room(plan, "hgfedcba"), kind) for kind in "hgfedcba"]
        self.assertEqual(told(corner(walls)), ("", "abcdefgh"))
        self.assertEqual(corner(walls).many, 256)

    def test_errors(self):
        a, b, c = [Wall(Room(P), kind) for kind in "abc"]
        caught(NoWalls, lambda: corner([]))
        caught(NoWalls, lambda: corner(()))
        caught(OtherPlan, lambda: corner([a, Wall(Room(D), "b")]))
        caught(OtherPlan, lambda: corner([a, a, c, Wall(Room(D), "b")]))
        for walls, at in (
            ([a, a], (0, 1)), ([a, c], (0, 1)), ([b, a, c], (1, 2)), ([b, a, c, b], (0, 3)), ([b, b], (0, 1)),
            ([a, b, c, a], (0, 2)), ([b, c, c, a], (1, 2)),
        ):
            error = caught(NotCrossing, lambda: corner(walls))
            self.assertIs(error.one, walls[at[0]])
            self.assertIs(error.other, walls[at[1]])

    def test_far_walls(self):
        plan = Plan("abcd", ["ac", "ad", "bc", "bd"])
        one, other = Wall(Room(plan, "ab" * 200), "a"), Wall(Room(plan, "dc" * 200), "d")
        self.assertEqual(told(corner([one, other])), ("ab" * 200 + "dc" * 200, "ad"))


class CoordinatesTest(unittest.TestCase):

    def test_distances(self):
        dice = Random(8)
        for near in small_floors(6, 4):
            plan = near.plan
            for _ in range(30):
                one, other = near.room(dice.choice(near.names)), near.room(dice.choice(near.names))
                found = coordinates(one), coordinates(other)
                self.assertEqual([len(parts) for parts in found], [len(plan.parts())] * 2)
                for part, text in zip(plan.parts(), found[0]):
                    self.assertEqual("".join(letter for letter in one.name if letter in part), text)
                    self.assertTrue(is_name(plan, text))
                apart = [Room(plan, a).distance(Room(plan, b)) for a, b in zip(*found)]
                self.assertEqual(sum(apart), one.distance(other))

    def test_no_parts(self):
        self.assertEqual(coordinates(Room(Plan(""))), ())
        self.assertEqual(coordinates(room=Room(L, "aba")), ("aba",))


if __name__ == "__main__":
    unittest.main()
