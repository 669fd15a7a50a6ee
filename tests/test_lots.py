"""[8] to [11], [26], [27], with [2] and [53] as far as they speak of halves and lots."""

import inspect
import unittest
from itertools import product
from random import Random

from crosswalls.errors import EmptyLot, Endless, InvalidKind, NoRooms, OtherPlan, TooMany
from crosswalls.lots import Facing, Half, Lot
from crosswalls.middles import hull
from crosswalls.plans import Plan
from crosswalls.rooms import Room
from crosswalls.walls import Wall
from tests.examples import D, L, NO_KINDS, NO_STRINGS, P, Q, caught
from tests.floors import all_crossing, floor, ring, small_floors
from tests.lists import is_surely_finite, lot_of, some_lots

RING = Plan.ring("abcde")


def names(rooms):
    return [room.name for room in rooms]


def told(half):
    return ((half.wall.room.name, half.wall.kind), half.far)


def near_halves(near, distance):
    """All halves of the walls near home, told as (wall, far)."""
    return [(wall, far) for wall in near.every_wall if len(wall[0]) <= distance for far in (False, True)]


def empty_lot(plan, kind="a"):
    wall = Wall(Room(plan), kind)
    return Lot(plan, [Half(wall), Half(wall, True)])


class ExamplesTest(unittest.TestCase):

    def test_lots(self):
        p = RING
        home = Room(p)
        one, two, three = [Half(Wall(home, kind), far=True) for kind in "abc"]
        found = (one.meets(two), one.meets(three), Half(Wall(Room(p, "a"), "c"), far=True) <= one)
        self.assertEqual(found, (True, False, True))
        lot = Lot(p, [one, two])
        walls = [(wall.room.name, wall.kind) for wall in lot.parting(Room(p, "c"))]
        self.assertEqual((lot.gate(home).name, lot.distance(Room(p, "c")), walls), ("ab", 3, [("", "a"), ("", "b"), ("", "c")]))
        facing = Lot(p, [one]).facing(Lot(p, [three]))
        found = (facing.one.name, facing.other.name, facing.way, facing.kinds, names(facing.lot.rooms()))
        self.assertEqual(found, ("a", "c", "ac", "b", ["", "b"]))
        self.assertEqual(names(Lot.around([home, Room(p, "abd")]).rooms()), ["", "a", "b", "ab", "abd"])


class HalfTest(unittest.TestCase):

    def test_attributes(self):
        wall = Wall(Room(P, "c"), "a")
        for half, far in ((Half(wall), False), (Half(wall, True), True), (Half(far=True, wall=wall), True), (Half(wall, False), False)):
            self.assertEqual((half.wall, half.plan), (wall, P))
            self.assertIs(half.far, far)

    def test_rooms(self):
        for near in small_floors(5, 3):
            for wall, far in near_halves(near, 2)[::3]:
                half = near.half(wall, far)
                for name in near.names[::2]:
                    self.assertIs(near.room(name) in half, (wall in near.beyond[name]) == far)

    def test_in_with_any_value(self):
        half = Half(Wall(Room(P), "a"))
        self.assertIs(Room(Plan("bca", ["cb", "ab"]), "b") in half, True)
        self.assertIs(Room(D) in half, False)
        for value in NO_STRINGS + ["", "b", half, half.wall]:
            if not (isinstance(value, Room)):
                self.assertIs(value in half, False)
                self.assertIs(value in ~half, False)

    def test_beside(self):
        for near in small_floors(4, 3):
            for (name, kind), wall in near.walls.items():
                half = Half.beside(near.room(name), kind)
                self.assertEqual(told(half), (wall, wall in near.beyond[name]))
                self.assertIs(type(half.far), bool)
        for value in NO_STRINGS + NO_KINDS:
            self.assertIs(caught(InvalidKind, lambda: Half.beside(Room(P), value)).value, value)
        self.assertEqual(told(Half.beside(kind="a", room=Room(P, "ab"))), (("", "a"), True))

    def test_the_other_half(self):
        for near in small_floors(4, 3):
            for wall, far in near_halves(near, 2):
                half = near.half(wall, far)
                self.assertEqual(told(~half), (wall, not far))
                self.assertEqual(~~half, half)
                self.assertNotEqual(~half, half)

    def test_equal(self):
        halves = [Half(Wall(Room(P, "c"), "a"), far) for far in (False, True)]
        self.assertEqual(halves[0], Half(Wall(Room(Plan("cab", ["cb", "ba"]), "cb"), "a")))
        for value in NO_STRINGS + [halves[1], halves[0].wall, Lot(P, halves[:1]), Half(Wall(Room(P), "a")), "c"]:
            self.assertIs(halves[0] == value, False)
            self.assertIs(halves[0] != value, True)
        self.assertNotEqual(Half(Wall(Room(P), "a")), Half(Wall(Room(D), "a")))

    def test_meets_and_part_of_against_the_rooms(self):
        for near in small_floors(6, 4):
            halves = near_halves(near, 1)[:40]
            rooms = {half: set(near.having([half])) for half in halves}
            made = {half: near.half(*half) for half in halves}
            for one, other in product(halves, halves):
                self.assertIs(made[one].meets(made[other]), bool(rooms[one] & rooms[other]))
                self.assertIs(made[one] <= made[other], rooms[one] <= rooms[other])

    def test_other_plan(self):
        one, other = Half(Wall(Room(P), "a")), Half(Wall(Room(D), "a"))
        caught(OtherPlan, lambda: one <= other)
        caught(OtherPlan, lambda: one.meets(other))
        self.assertIs(one == other, False)


class LotTest(unittest.TestCase):

    def test_rooms_of_lots(self):
        dice = Random(1)
        for near in small_floors(7, 5):
            for lot, halves, rooms in some_lots(dice, near, 2, 5, 8):
                some = near.within(near.far - 1)[::2]
                self.assertEqual([name for name in some if near.room(name) in lot], [name for name in rooms if name in some])
                self.assertIs(bool(lot), rooms != [])

    def test_least_list(self):
        dice = Random(2)
        shorter = 0
        for near in small_floors(7, 5):
            for lot, halves, rooms in some_lots(dice, near, 1, 6, 20):
                wanted = []
                for half in set(halves) if rooms else []:
                    inner = [other for other in halves if other != half and set(near.having([other])) <= set(near.having([half]))]
                    wanted += [] if inner else [half]
                wanted = sorted(wanted, key=lambda half: (len(half[0][0]), half))
                self.assertEqual([told(half) for half in lot.halves], wanted)
                shorter += len(set(halves)) > len(wanted) > 0
                self.check_made_again(dice, near, lot, halves)
        self.assertGreater(shorter, 40)

    def check_made_again(self, dice, near, lot, halves):
        self.assertIs(type(lot.halves), tuple)
        dice.shuffle(halves)
        self.assertEqual(lot_of(near, halves + halves), lot)
        if lot:
            self.assertEqual(Lot(lot.plan, lot.halves), lot)
            self.assertEqual(Lot(halves=list(lot.halves[::-1]), plan=lot.plan), lot)

    def test_without_halves(self):
        for plan in (P, Q, D, L, RING, Plan("")):
            for lot in (Lot(plan), Lot(plan, ()), Lot(plan, []), Lot(halves=[], plan=plan)):
                self.assertEqual((lot.plan, lot.halves, bool(lot)), (plan, (), True))
                self.assertIs(Room(plan) in lot, True)
                self.assertEqual(lot, Lot(plan))

    def test_empty_lots(self):
        for lot in (empty_lot(P), empty_lot(P, "b"), Lot(P, [Half(Wall(Room(P), kind), True) for kind in "ac"])):
            self.assertEqual((lot.plan, lot.halves), (P, ()))
            self.assertIs(bool(lot), False)
            self.assertIs(Room(P) in lot, False)
            self.assertEqual((lot, lot.rooms(), lot.rooms(most=1)), (empty_lot(P), [], []))
            self.assertNotEqual(lot, Lot(P))
            caught(EmptyLot, lambda: lot.gate(Room(P)))
            caught(EmptyLot, lambda: lot.distance(Room(P)))
            caught(EmptyLot, lambda: lot.parting(Room(P)))
            caught(EmptyLot, lambda: lot.facing(Lot(P)))
            caught(EmptyLot, lambda: Lot(P).facing(lot))
            caught(EmptyLot, lambda: lot.facing(lot))
            self.assertIs(lot <= lot and lot <= Lot(P) and lot <= empty_lot(P, "c"), True)
            self.assertIs(Lot(P) <= lot, False)
            self.assertEqual((lot & Lot(P), Lot(P) & lot, lot & lot), (lot, lot, lot))

    def test_empty_only_if_two_halves_do_not_meet(self):
        dice = Random(3)
        for near in small_floors(7, 5):
            for lot, halves, rooms in some_lots(dice, near, 1, 6, 20):
                made = [near.half(*half) for half in halves]
                self.assertIs(bool(lot), all(one.meets(other) for one in made for other in made))

    def test_in_with_any_value(self):
        for lot in (Lot(P), Lot(P, [Half(Wall(Room(P), "b"))]), empty_lot(P)):
            self.assertIs(Room(D) in lot, False)
            self.assertIs(Room(L) in lot, False)
            for value in NO_STRINGS + ["", "a", lot, Wall(Room(P), "a")]:
                if not isinstance(value, Room):
                    self.assertIs(value in lot, False)
        self.assertIs(Room(Plan("bca", ["cb", "ab"]), "a") in Lot(P), True)

    def test_both_part_of_and_equal(self):
        dice = Random(4)
        for near in small_floors(7, 5):
            some = list(some_lots(dice, near, 0, 3, 7)) + list(some_lots(dice, near, 1, 2, 6))
            for (one, its_halves, its_rooms), (other, halves, rooms) in product(some, some):
                self.assertEqual(one & other, lot_of(near, its_halves + halves))
                self.assertIs(one <= other, set(its_rooms) <= set(rooms))
                self.assertIs(one == other, its_rooms == rooms)
                self.assertIs(one != other, its_rooms != rooms)

    def test_unequal_to_others(self):
        half = Half(Wall(Room(P), "a"))
        for value in NO_STRINGS + [half, half.wall, Lot(D, [Half(Wall(Room(D), "a"))]), Lot(P), "", (half,)]:
            self.assertIs(Lot(P, [half]) == value, False)
        self.assertNotEqual(Lot(P), Lot(D))
        self.assertNotEqual(empty_lot(P), empty_lot(D))
        self.assertEqual(Lot(P), Lot(Plan("cba", ["cb", "ab", "ba"])))

    def test_other_plan(self):
        one, other = Half(Wall(Room(P), "a")), Half(Wall(Room(D), "a"))
        for halves in ([other], [one, other], (one, ~one, other)):
            caught(OtherPlan, lambda: Lot(P, halves))
        for lot in (Lot(P, [one]), empty_lot(P)):
            for strange in (Lot(D), empty_lot(D)):
                caught(OtherPlan, lambda: lot & strange)
                caught(OtherPlan, lambda: lot <= strange)
                caught(OtherPlan, lambda: lot.facing(strange))
                self.assertIs(lot == strange, False)
            caught(OtherPlan, lambda: lot.gate(Room(D)))
            caught(OtherPlan, lambda: lot.distance(Room(D)))
            caught(OtherPlan, lambda: lot.parting(Room(D)))

    def test_halves_are_copied(self):
        halves = [Half(Wall(Room(P), "a"))]
        lot = Lot(P, halves)
        halves.clear()
        self.assertEqual(len(lot.halves), 1)
        self.assertNotEqual(lot, Lot(P))


class GateTest(unittest.TestCase):

    def test_gate_distance_and_parting(self):
        dice = Random(5)
        for near in small_floors(8, 5):
            for lot, halves, rooms in some_lots(dice, near, 1, 3, 5):
                if rooms and len(rooms[0]) <= near.far // 3:
                    for name in near.within(near.far // 3)[:12]:
                        self.check(near, lot, rooms, name)

    def check(self, near, lot, rooms, name):
        room = near.room(name)
        least = min(near.distance(name, other) for other in rooms)
        nearest = [other for other in rooms if near.distance(name, other) == least]
        self.assertEqual([lot.gate(room).name], nearest)
        self.assertEqual(lot.distance(room), least)
        walls = [
            wall for wall in near.every_wall
            if all((wall in near.beyond[other]) != (wall in near.beyond[name]) for other in rooms)
        ]
        found = lot.parting(room)
        self.assertIs(type(found), list)
        self.assertEqual([(wall.room.name, wall.kind) for wall in found], walls)

    def test_far_rooms(self):
        dice = Random(6)
        plan = Plan("abcdefgh", ring("abcdefgh"))
        start = Room(plan, "aceg" * 10)
        halves = [Half.beside(start + "".join(dice.choice("bdfh") for _ in range(20)), kind) for kind in "acegacegaceg"]
        lot = Lot(plan, halves)
        self.assertTrue(lot)
        room = Room(plan, "".join(dice.choice(plan.kinds) for _ in range(200)))
        gate, walls = lot.gate(room), lot.parting(room)
        self.assertEqual((len(walls), lot.distance(room)), (room.distance(gate), room.distance(gate)))
        self.assertTrue(gate in lot and start in lot)
        self.assertIs(room in lot, gate == room)
        for wall in walls:
            self.assertIs(wall.beyond(gate), wall.beyond(start))
            self.assertIsNot(wall.beyond(room), wall.beyond(gate))

    def test_arguments_by_name(self):
        lot = Lot(P, [Half(Wall(Room(P), "a"), True)])
        self.assertEqual((lot.gate(room=Room(P, "b")).name, lot.distance(room=Room(P))), ("ab", 1))
        self.assertEqual(lot.parting(room=Room(P)), [Wall(Room(P), "a")])
        self.assertEqual(lot.facing(other=Lot(P)).way, "")


class FacingTest(unittest.TestCase):

    def test_against_all_pairs_of_rooms(self):
        dice = Random(7)
        apart = 0
        for near in small_floors(8, 6):
            some = [made for made in some_lots(dice, near, 1, 3, 9) if made[2] and len(made[2][0]) < 3]
            for one, other in product(some[:5], some[:5]):
                apart += self.check(near, one, other)
        self.assertGreater(apart, 50)

    def check(self, near, one, other):
        facing = one[0].facing(other[0])
        self.assertIs(type(facing), Facing)
        near_rooms, far_rooms = [
            [name for name in made[2] if len(name) <= near.far // 2 + 1][:60] for made in (one, other)
        ]
        least = min(near.distance(a, b) for a in near_rooms for b in far_rooms)
        self.assertEqual(facing.other, other[0].gate(near.room(one[2][0])))
        self.assertEqual(facing.one, one[0].gate(facing.other))
        self.assertEqual((facing.way, len(facing.way)), (facing.one.way_to(facing.other), least))
        plan = near.plan
        kinds = "".join(kind for kind in plan.kinds if all(plan.crosses(kind, letter) for letter in facing.way))
        part = Plan(kinds, [pair for pair in plan.pairs if set(pair) <= set(kinds)])
        self.assertEqual((facing.kinds, facing.lot.plan), (kinds, part))
        pairs = {(a, b) for a in near_rooms for b in far_rooms if near.distance(a, b) == least}
        for a in near_rooms:
            self.check_partner(facing, part, near.room(a), [b for b in far_rooms if (a, b) in pairs], far_rooms)
        self.check_names(facing, part, near, one[0], other[0])
        return least > 0

    def check_partner(self, facing, part, room, partners, far_rooms):
        """The one partner of a room, if it has any, is told by the same name."""
        way = facing.one.way_to(room)
        if not way.strip(part.kinds) and Room(part, way) in facing.lot:
            partner = (facing.other + way).name
            self.assertEqual(partners, [partner] if partner in far_rooms else [])
        else:
            self.assertEqual(partners, [])

    def check_names(self, facing, part, near, one, other):
        for name in near.within(3)[:40]:
            if not name.strip(part.kinds):
                wanted = facing.one + name in one and facing.other + name in other
                self.assertIs(Room(part, name) in facing.lot, wanted)

    def test_lots_that_meet(self):
        one, other = [Half(Wall(Room(RING), kind), True) for kind in "ab"]
        facing = Lot(RING, [one]).facing(Lot(RING, [other]))
        self.assertEqual((facing.one.name, facing.other.name, facing.way, facing.kinds), ("ab", "ab", "", "abcde"))
        back = [Half.beside(Room(RING), "a"), Half.beside(Room(RING), "b")]
        self.assertEqual(facing.lot, Lot(RING, back))


class RoomsTest(unittest.TestCase):

    def test_finite_and_endless_lots(self):
        dice = Random(8)
        finite = endless = 0
        for near in small_floors(7, 5):
            for lot, halves, rooms in some_lots(dice, near, 1, 9, 12):
                if is_surely_finite(near, rooms):
                    found = lot.rooms()
                    self.assertIs(type(found), list)
                    self.assertEqual(names(found), rooms)
                    finite += len(rooms) > 1
                elif not near.plan.is_finite:
                    caught(Endless, lot.rooms)
                    caught(Endless, lambda: lot.rooms(most=1))
                    endless += 1
        self.assertGreater(finite, 15)
        self.assertGreater(endless, 50)

    def test_endless_though_thin(self):
        caught(Endless, Lot(L).rooms)
        strip = Lot(Q, [Half(Wall(Room(Q, "a"), "c")), Half(Wall(Room(Q, "c"), "a"))])
        caught(Endless, lambda: strip.rooms(most=10 ** 3))
        ended = strip & Lot(Q, [Half(Wall(Room(Q, way), kind)) for way, kind in (("bd", "b"), ("db", "d"))])
        self.assertEqual(len(ended.rooms()), 15)
        line = Lot(RING, [Half.beside(Room(RING, "ba" * 3), "c"), Half.beside(Room(RING, "ba" * 3), "d")])
        caught(Endless, line.rooms)

    def test_most(self):
        lot = Lot(Q, [Half(Wall(Room(Q), kind)) for kind in "abcd"])
        self.assertEqual(names(lot.rooms(most=1)), [""])
        lot = Lot(Q, [Half(Wall(Room(Q, way), kind)) for way, kind in (("a", "c"), ("c", "a"), ("b", "d"), ("d", "b"))])
        self.assertEqual(len(lot.rooms(most=9)), 9)
        for most in (1, 8):
            self.assertEqual(caught(TooMany, lambda: lot.rooms(most=most)).most, most)
        self.assertEqual(inspect.signature(Lot.rooms).parameters["most"].kind, inspect.Parameter.KEYWORD_ONLY)
        lot.rooms().clear()
        self.assertEqual(len(lot.rooms()), 9)

    def box(self, plan, one, other):
        """All rooms of a product of two lines up to so many doors from home to all four sides."""
        sides = ["ab" * one, "ba" * one, "cd" * other, "dc" * other]
        return Lot(plan, [Half(Wall(Room(plan, side[:-1]), side[-1])) for side in sides])

    def test_most_is_two_thousand_by_default(self):
        plan = Plan("abcd", ["ac", "ad", "bc", "bd"])
        self.assertEqual(len(self.box(plan, 10, 13).rooms()), 39 * 51)
        lot = self.box(plan, 1, 334)
        self.assertEqual(caught(TooMany, lot.rooms).most, 2000)
        self.assertEqual(len(lot.rooms(most=4005)), 3 * 1335)
        self.assertEqual(caught(TooMany, lambda: lot.rooms(most=4004)).most, 4004)

    def test_a_huge_most(self):
        # Neither endless nor very many rooms are listed first.
        caught(Endless, lambda: Lot(RING).rooms(most=10 ** 100))
        plan = Plan("abcd", ["ac", "ad", "bc", "bd"])
        lot = self.box(plan, 30, 25)
        self.assertEqual(caught(TooMany, lambda: lot.rooms(most=6000)).most, 6000)
        self.assertEqual(len(lot.rooms(most=10 ** 100)), 119 * 99)

    def test_a_plan_that_is_finite(self):
        for kinds in ("", "a", "abcde"):
            plan = Plan(kinds, all_crossing(kinds))
            self.assertEqual(len(Lot(plan).rooms()), 2 ** len(kinds))

    def test_twelve_far_halves(self):
        plan = Plan("abcdefgh", ring("abcdefgh"))
        ways = ["aceg" * 15, "gace" * 15, "bdfh" * 15]
        lot = Lot(plan, [Half(Wall(Room(plan, way), kind)) for way in ways for kind in "aceg"])
        self.assertIs(Room(plan) in lot, True)
        self.assertIs(Room(plan, ways[0] + "a") in lot, False)
        caught(Endless, lot.rooms)


class AroundTest(unittest.TestCase):

    def test_against_the_hull(self):
        dice = Random(9)
        for near in small_floors(8, 6):
            for many in (1, 2, 2, 3):
                chosen = [dice.choice(near.within(near.far // 3)) for _ in range(many)]
                rooms = [near.room(name) for name in chosen]
                lot = Lot.around(rooms)
                wanted = near.hull(chosen)
                self.assertEqual(names(lot.rooms()), wanted)
                self.assertEqual(Lot(near.plan, lot.halves), lot)
                self.assertEqual([told(half) for half in lot.halves], self.least(near, wanted))
                self.assertEqual([name for name in near.within(near.far - 1) if near.room(name) in lot], wanted)

    def least(self, near, wanted):
        """The halves of the walls of the doors that lead out of the rooms."""
        walls = {
            near.walls[name, kind]: (near.walls[name, kind] in near.beyond[name])
            for name in wanted for kind in near.plan.kinds if near.behind[name].get(kind) not in wanted
        }
        return sorted(walls.items(), key=lambda half: (len(half[0][0]), half))

    def test_errors(self):
        caught(NoRooms, lambda: Lot.around([]))
        caught(NoRooms, lambda: Lot.around(()))
        caught(OtherPlan, lambda: Lot.around([Room(P), Room(D)]))
        caught(OtherPlan, lambda: Lot.around(rooms=[Room(P), Room(P), Room(L)]))

    def test_three_hundred_rooms(self):
        dice = Random(10)
        plan = Plan("abcdefgh", ring("abcdefgh"))
        start = Room(plan, "".join(dice.choice("aceg") for _ in range(180)))
        ways = ["aceg" * 12, "bdfh" * 12, "cfaf" * 12, "hdhb" * 12]
        rooms = [start + way for way in ways]
        lot = Lot.around(rooms)
        wanted = hull(rooms)
        self.assertGreater(len(wanted), 100)
        self.assertEqual(lot.rooms(), wanted)
        self.assertEqual(lot.rooms(most=len(wanted)), wanted)
        self.assertEqual(caught(TooMany, lambda: lot.rooms(most=len(wanted) - 1)).most, len(wanted) - 1)
        self.assertEqual(Lot(plan, lot.halves), lot)
        self.assertIs(lot <= Lot.around(rooms + [Room(plan)]) and lot <= lot, True)
        self.assertEqual(lot & Lot.around(rooms[:2]), Lot.around(rooms[:2]))
        self.assertEqual(lot.gate(Room(plan)), wanted[0])


if __name__ == "__main__":
    unittest.main()
