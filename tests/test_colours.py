"""[46], [47], with [2] and [53] as far as they speak of counting and finding colours."""

import unittest
from random import Random

from crosswalls.counts import Counts
from crosswalls.errors import InvalidColour, InvalidKind, OtherPlan, TooLong
from crosswalls.gaits import When, when
from crosswalls.lots import Half, Lot
from crosswalls.motions import Motion
from crosswalls.paintings import Painting
from crosswalls.plans import Plan
from crosswalls.ranks import Row
from crosswalls.rooms import Room
from crosswalls.walls import Wall
from tests.examples import D, L, NO_KINDS, NO_STRINGS, P, caught
from tests.going import Going
from tests.painted import COLOURS, some_painting
from tests.tables import both_tables, every_floor
from tests.test_paintings import CHESS, NO_COLOUR_VALUES

RING = Plan.ring("abcde")


class CountTest(unittest.TestCase):

    def test_at_distance(self):
        dice = Random(1)
        for near in every_floor():
            for _ in range(5):
                painting, told = some_painting(dice, near)
                for colour in COLOURS + ["grey", "none"]:
                    for distance in range(near.far + 1):
                        wanted = len([name for name in told if len(name) == distance and told[name] == colour])
                        self.assertEqual(painting.at_distance(colour, distance), wanted)
        self.assertEqual(CHESS.at_distance(distance=200, colour="black"), 2)
        self.assertEqual(Painting.plain(RING, "red").at_distance("red", 200), Counts(Lot(RING), Room(RING)).at(200))

    def test_count(self):
        dice = Random(2)
        for near in every_floor():
            for _ in range(5):
                painting, told = some_painting(dice, near)
                for colour in COLOURS + ["grey", "none"]:
                    many = painting.count(colour=colour)
                    if many is None:
                        self.assertTrue(any(painting.at_distance(colour, distance) for distance in range(120, 95, -1)))
                    else:
                        row = [painting.at_distance(colour, distance) for distance in range(30)]
                        self.assertEqual((many, type(many), any(row[15:])), (sum(row), int, False))

    def test_counts_of_lots(self):
        home = Room(RING)
        halves = [Half(Wall(Room(RING, "ac"), "b")), Half(Wall(home, "c"), True), Half(Wall(Room(RING, "cd"), "a"))]
        for lot in (Lot(RING, halves), Lot(RING, halves[:1]), Lot.around([home, Room(RING, "abd"), Room(RING, "ec")]), Lot(RING, halves[1:])):
            region, counts = Painting.of_lot(lot), Counts(lot, home)
            self.assertEqual([region.at_distance("yes", distance) for distance in range(12)], counts.row(12))
            self.assertEqual(region.count("yes"), counts.total() if counts.is_finite else None)
            self.assertEqual([room.name for room in region.rooms("yes", 5)], [room.name for room in Row(lot).part(0, 5)])
            for way in ("", "dbe", "acace", "abcdeabcde"):
                self.assertEqual(region.distance("yes", Room(RING, way)), lot.distance(Room(RING, way)))

    def test_errors(self):
        for value in NO_COLOUR_VALUES:
            for deed in (lambda: CHESS.count(value), lambda: CHESS.at_distance(value, 3), lambda: CHESS.rooms(value, 3),
                         lambda: CHESS.distance(value, Room(P)), lambda: CHESS.when(Motion(L), Room(L), value)):
                self.assertIs(caught(InvalidColour, deed).value, value)
        caught(OtherPlan, lambda: CHESS.distance("red", Room(P)))
        caught(OtherPlan, lambda: CHESS.when(Motion(P), Room(L), "?"))
        caught(OtherPlan, lambda: CHESS.when(Motion(L), Room(P), "?"))


class RoomsTest(unittest.TestCase):

    def test_first_rooms(self):
        dice = Random(3)
        for near in every_floor():
            for _ in range(5):
                painting, told = some_painting(dice, near)
                for colour in COLOURS + ["grey", "none"]:
                    wanted = [name for name in near.names if told[name] == colour]
                    for most in (0, min(1, len(wanted)), len(wanted) // 2, len(wanted)):
                        found = painting.rooms(colour, most)
                        self.assertEqual((type(found), [room.name for room in found]), (tuple, wanted[:most]))
                    more = painting.rooms(most=len(wanted) + 3, colour=colour)
                    self.assertEqual([room.name for room in more[:len(wanted)]], wanted)
                    self.assertTrue(all(len(room) > near.far and painting[room] == colour for room in more[len(wanted):]))
                    if painting.count(colour) is not None:
                        self.assertEqual(len(more), min(len(wanted) + 3, painting.count(colour)))

    def test_far_rooms(self):
        # On a line a colour comes again after 24 rooms: the rooms are far apart.
        states = list(range(1, 24)) + [0]
        painting = Painting(L, [states, states], ["red"] * 23 + ["blue"])
        self.assertEqual([len(room) for room in painting.rooms("blue", 8)], [23, 23, 47, 47, 71, 71, 95, 95])
        self.assertEqual(len(painting.rooms("blue", 166)[-1]), 83 * 24 - 1)
        self.assertEqual(caught(TooLong, lambda: painting.rooms("blue", 167)).length, 2015)
        tree = Painting(Plan("abcdef"), [states] * 6, ["red"] * 23 + ["blue"])
        self.assertEqual([room.name for room in tree.rooms("blue", 2)], ["ab" * 11 + "a", "ab" * 11 + "c"])
        self.assertEqual(len(tree.rooms("blue", 200)), 200)

    def test_distance(self):
        dice = Random(4)
        for near in every_floor():
            for _ in range(5):
                painting, told = some_painting(dice, near)
                for colour in COLOURS + ["grey", "none"]:
                    for name in near.names[::7]:
                        found = painting.distance(colour, near.room(name))
                        there = [near.distance(name, other) for other in told if told[other] == colour]
                        if found is None:
                            self.assertEqual(there, [])
                        else:
                            self.assertEqual(type(found), int)
                            self.assertLessEqual(found, min(there, default=found))
                            if len(name) + found <= near.far:
                                self.assertEqual(found, min(there))
                            self.check_around(painting, colour, near.room(name), found)

    def check_around(self, painting, colour, room, found):
        around = [painting.distance(colour, room[kind]) for kind in room.plan.kinds]
        self.assertIs(found == 0, painting[room] == colour)
        self.assertTrue(all(abs(other - found) <= 1 for other in around))
        self.assertTrue(found == 0 or found - 1 in around)

    def test_farthest_rooms(self):
        wide = Plan("ab") * Plan("cd") * Plan("ef")
        far = Room(wide, "abcdef" * 66)
        self.assertEqual(Painting.spot(Room(wide, "bdf")).distance("yes", far), len(far) + 3)
        self.assertEqual(Painting.spot(Room(wide, "ace")).distance("yes", far), len(far) - 3)
        self.assertIsNone(Painting.spot(Room(wide)).distance("maybe", far))
        ball = Painting.ball(Room(RING, "abdceabd"), 6)
        for way in ("acebd" * 80, "abdceabd" * 50):
            self.check_around(ball, "yes", Room(RING, way[:399]), ball.distance("yes", Room(RING, way[:399])))


class WhenTest(unittest.TestCase):

    def test_images(self):
        dice = Random(5)
        for near in every_floor():
            going = Going(near.plan.kinds, near.plan.pairs)
            for m in going.some_motions(dice, 4, 8):
                painting, _ = some_painting(dice, near)
                name, colour = dice.choice(near.names), dice.choice(COLOURS + ["grey"])
                found = painting.when(going.motion(m), near.room(name), colour)
                self.assertIs(type(found), When)
                images = going.images(m, name, -25, 25)
                self.assertEqual({n for n in images if n in found}, {n for n in images if painting[near.room(images[n])] == colour})
                self.check_far(painting, going.motion(m), near.room(name), colour, found)

    def check_far(self, painting, motion, room, colour, found):
        for number in (97, -113, 140):
            self.assertIs(number in found, painting[motion.power(number)(room)] == colour)

    def test_colours_part_all_ints(self):
        dice = Random(6)
        for near in every_floor():
            going = Going(near.plan.kinds, near.plan.pairs)
            for m in going.some_motions(dice, 5, 3):
                painting, _ = some_painting(dice, near)
                room = near.room(dice.choice(near.names))
                whole = When.rests(1, [])
                for colour in sorted({row[0] for row in painting.form}):
                    found = painting.when(room=room, colour=colour, motion=going.motion(m))
                    self.assertIs(bool(whole & found), False)
                    whole = whole | found
                self.assertEqual(whole, When.since(0) | ~When.since(0))

    def test_halves_and_lots(self):
        dice = Random(7)
        for near in every_floor():
            going = Going(near.plan.kinds, near.plan.pairs)
            for m in going.some_motions(dice, 5, 4) if near.plan.kinds else []:
                half = near.half(dice.choice(near.every_wall[:20]), dice.random() < 0.5)
                lot = Lot(near.plan, [half, near.half(near.every_wall[0], dice.random() < 0.5)])
                room = near.room(dice.choice(near.names))
                self.assertEqual(Painting.of_half(half).when(going.motion(m), room, "yes"), when(going.motion(m), room, half))
                self.assertEqual(Painting.of_lot(lot).when(going.motion(m), room, "yes"), when(going.motion(m), room, lot))

    def test_tables_of_many_states(self):
        dice = Random(9)
        line, free = Plan("ab"), Plan("abc")
        for at in range(120):
            tables = [[dice.randrange(7) for _ in range(7)] for _ in range(3)]
            if at % 3 == 0:
                plan, tables = free, tables
            elif at % 3 == 1:
                plan, tables = line, tables[:2]
            else:
                second = [dice.randrange(2) for _ in range(2)]
                plan, tables = D, both_tables(tables[:2], [[0, 1], [0, 1]]) + both_tables([list(range(7))], [second])
            painting = Painting(plan, tables, [dice.choice(COLOURS) for _ in tables[0]])
            way = "".join(dice.choice(plan.kinds) for _ in range(dice.randrange(9)))
            motion = Motion(plan, way, dice.choice(plan.renamings()))
            # Rooms that the motion leads past home for a while, and others.
            room = motion.power(dice.randrange(-6, 7))(Room(plan, way[:dice.randrange(4)]))
            room = room if len(room) <= 24 else Room(plan, room.name[:24])
            found = painting.when(motion, room, "red")
            for number in range(-40, 41):
                self.assertIs(number in found, painting[motion.power(number)(room)] == "red")

    def test_rows_that_come_again_later(self):
        dice = Random(10)
        for _ in range(300):
            many = dice.randrange(3, 20)
            states = list(range(1, many)) + [dice.randrange(many)]
            painting = Painting(L, [states, states], [dice.choice(COLOURS) for _ in states])
            motion = Motion(L, "ab" * dice.randrange(1, 3), "ab") if dice.random() < 0.7 else Motion(L, "aba", "ba")
            room = Room(L, "ba" * dice.randrange(4))
            images = {number: painting[motion.power(number)(room)] for number in range(-60, 61)}
            found = painting.when(motion, room, "red")
            self.assertEqual([number for number in images if number in found], [number for number in images if images[number] == "red"])

    def test_long_periods(self):
        states = list(range(1, 24)) + [0]
        painting = Painting(L, [states, states], ["red"] * 23 + ["blue"])
        found = painting.when(Motion(L, "a", "ba"), Room(L, "b"), "blue")
        self.assertEqual([n for n in range(-60, 60) if n in found], [n for n in range(-60, 60) if abs(n - 1) % 24 == 23])
        found = painting.when(Motion(L, "ab" * 5), Room(L), "blue")
        self.assertEqual(found, When.rests(1, []))
        two = Painting(Plan("ab") * Plan("cd"), [states, states] + [list(range(24))] * 2, ["red"] * 23 + ["blue"])
        found = two.when(Motion(two.plan, "abcd"), Room(two.plan, "a"), "blue")
        self.assertEqual([n for n in range(100) if n in found], [n for n in range(100) if (2 * n + 1) % 24 == 23])


class BreaksTest(unittest.TestCase):

    def test_first_barred_door(self):
        dice = Random(8)
        some = 0
        for near in every_floor():
            for _ in range(15) if near.plan.kinds else []:
                painting, told = some_painting(dice, near)
                triples = [(dice.choice(COLOURS + ["grey"]), dice.choice(near.plan.kinds), dice.choice(COLOURS)) for _ in range(dice.randrange(3))]
                wanted = self.first(near, told, triples)
                found = painting.breaks(triples)
                if wanted is None:
                    self.assertTrue(found is None or len(found[0]) >= near.far)
                else:
                    some += 1
                    self.assertEqual((found, type(found)), ((near.room(wanted[0]), wanted[1]), tuple))
                self.assertEqual(painting.breaks(barred=tuple([list(triple) for triple in triples])), found)
        self.assertGreater(some, 30)

    def first(self, near, told, triples):
        for name in near.within(near.far - 1):
            for kind in near.plan.kinds:
                other = near.behind[name][kind]
                pair = (told[name], told[other])
                if len(other) > len(name) and any(kind == step and pair in ((one, two), (two, one)) for one, step, two in triples):
                    return name, kind
        return None

    def test_none(self):
        self.assertIsNone(CHESS.breaks([]))
        self.assertIsNone(CHESS.breaks([("white", "a", "white"), ("black", "b", "black"), ("black", "b", "red")]))
        self.assertIsNone(Painting.plain(Plan(""), "red").breaks([]))

    def test_errors(self):
        for value in NO_COLOUR_VALUES:
            for triples in ([(value, "?", 7)], [("white", "a", "black"), (value, 5, "x")], [("a", "a", value)], (("a", "b", "c"), ["a", "b", value])):
                self.assertIs(caught(InvalidColour, lambda: CHESS.breaks(triples)).value, value)
        for value in NO_STRINGS + NO_KINDS:
            self.assertIs(caught(InvalidKind, lambda: CHESS.breaks([("white", "a", "black"), ("a", value, "?")])).value, value)


if __name__ == "__main__":
    unittest.main()
