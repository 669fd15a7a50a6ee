"""[6], [9], [12], [24], [27], [28], [30], [31], [41]: what all modules tell of the same rooms is one thing."""

import unittest
from random import Random

from crosswalls.blocks import Block, bridge, coordinates
from crosswalls.closed import Closed
from crosswalls.counts import Counts
from crosswalls.gaits import Gait, When, brings, fate, when
from crosswalls.lots import Half, Lot
from crosswalls.maps import Map
from crosswalls.middles import centres, gate, hull, in_hull, least_total, middle
from crosswalls.paintings import Painting
from crosswalls.ranks import Row
from crosswalls.rooms import Room
from crosswalls.shortest import Shortest
from crosswalls.walls import Wall, walls_between
from tests.going import goings


def some_way(dice, going, longest):
    return "".join(dice.choice(going.kinds) for _ in range(dice.randrange(longest + 1))) if going.kinds else ""


def some_rooms(dice, going, many, longest):
    return [Room(going.plan, some_way(dice, going, longest)) for _ in range(many)]


def some_halves(dice, going, many):
    rooms = some_rooms(dice, going, many if going.kinds else 0, 3)
    return [Half(Wall(room, dice.choice(going.kinds)), dice.random() < 0.4) for room in rooms]


def names(rooms):
    return [room.name for room in rooms]


class RoomsTest(unittest.TestCase):

    def test_hulls(self):
        dice = Random(1)
        for going in goings():
            rooms = some_rooms(dice, going, 3, 4)
            all_of_them = hull(rooms)
            lot = Lot.around(rooms)
            region = Painting.of_lot(lot)
            counts = Counts(lot, rooms[0])
            self.assertEqual(names(lot.rooms()), names(all_of_them))
            self.assertEqual(names(region.rooms("yes", 2000)), names(all_of_them))
            self.assertEqual((counts.total(), region.count("yes")), (len(all_of_them),) * 2)
            if len(all_of_them) <= 40:
                self.assertEqual(len(Closed.folded(all_of_them)), len(all_of_them))
            self.assertEqual(names(Row(lot).part(0, len(all_of_them))), names(all_of_them))
            for room in some_rooms(dice, going, 3, 5):
                near = gate(room, rooms)
                self.assertEqual(lot.gate(room), near)
                self.assertEqual({in_hull(room, rooms), room in lot, room in region, lot.distance(room) == 0}, {room == near})
                self.assertEqual(region.distance("yes", room), room.distance(near))
                self.assertEqual(lot.parting(room), walls_between(room, near))
                self.assertEqual(Counts(lot, room).begin, room.distance(near))

    def test_between(self):
        dice = Random(2)
        for going in goings():
            one, other, third = some_rooms(dice, going, 3, 5)
            ways = Shortest(one, other)
            between = hull([one, other])
            self.assertEqual((ways.size(), len(walls_between(one, other))), (len(between), one.distance(other)))
            for room in between:
                self.assertEqual(ways.through(room), Shortest(one, room).total() * Shortest(room, other).total())
                self.assertEqual(middle(one, other, room), room)
            mid = middle(one, other, third)
            self.assertEqual(mid, gate(third, [one, other]))
            self.assertEqual(least_total([one, other, third]), sum(room.distance(mid) for room in (one, other, third)))
            self.assertEqual(centres([one, other, third]), [mid])
            # A shortest way is one way at least, and all of them pass the same walls.
            for way in (ways[0], ways[ways.total() - 1]):
                self.assertEqual(one + way, other)

    def test_blocks_and_lots(self):
        dice = Random(3)
        for going in goings():
            one, other = [Block(room, "".join(kind for kind in going.kinds if dice.random() < 0.4)) for room in some_rooms(dice, going, 2, 4)]
            found = bridge(one, other)
            lots = [lot_of_block(block) for block in (one, other)]
            facing = lots[0].facing(lots[1])
            self.assertEqual((facing.way, Block(facing.one, found.kinds), Block(facing.other, found.kinds)), (found.way, found.one, found.other))
            for room in some_rooms(dice, going, 3, 4):
                self.assertEqual(lots[0].gate(room), one.nearest(room))
                self.assertIs(room in lots[0], room in one)
            if one.many is not None:
                self.assertEqual(Counts(lots[0], one.room).total(), one.many)
                self.assertEqual(lots[0].rooms(), one.listed())
            self.assertEqual(sum(len(part) for part in coordinates(one.room)), len(one.room))


def lot_of_block(block):
    """The lot of the rooms of a block: no wall of another kind at its first room is passed, wherever it touches the block."""
    rooms = [block.room]
    halves = [Half.beside(block.room, kind) for kind in block.plan.kinds if kind not in block.kinds]
    # Walls that touch the block lie around each of its rooms; those of rooms near its first one tell the others.
    for room in rooms:
        for kind in block.kinds:
            if len(room) < len(block.room) + 5 and room[kind] not in rooms:
                rooms.append(room[kind])
                halves += [Half.beside(room[kind], other) for other in block.plan.kinds if other not in block.kinds]
    return Lot(block.plan, halves)


class LedTest(unittest.TestCase):

    def test_motions_keep_what_is_told(self):
        dice = Random(4)
        for going in goings():
            for m in going.some_motions(dice, 4, 2):
                motion = going.motion(m)
                one, other, third = some_rooms(dice, going, 3, 4)
                lot = Lot(going.plan, some_halves(dice, going, 3))
                image = motion(lot)
                self.assertEqual(motion(middle(one, other, third)), middle(motion(one), motion(other), motion(third)))
                self.assertEqual(sorted(names(map(motion, hull([one, other, third])))), sorted(names(hull([motion(one), motion(other), motion(third)]))))
                self.assertEqual(Counts(image, motion(one)), Counts(lot, one))
                self.assertEqual(Shortest(motion(one), motion(other)).total(), Shortest(one, other).total())
                self.assertEqual(sorted(names(wall.room for wall in map(motion, walls_between(one, other)))),
                                 sorted(names(wall.room for wall in walls_between(motion(one), motion(other)))))
                if lot:
                    self.assertEqual(motion(lot.gate(one)), image.gate(motion(one)))
                    self.assertEqual(motion(Painting.of_lot(lot)), Painting.of_lot(image))
                self.assertEqual(motion(Lot.around([one, other])), Lot.around([motion(one), motion(other)]))

    def test_times(self):
        dice = Random(5)
        for going in goings():
            for m in going.some_motions(dice, 4, 2):
                motion = going.motion(m)
                start, goal = some_rooms(dice, going, 2, 3)
                gait = Gait(motion, start, goal)
                self.assertEqual(brings(motion, goal, start), gait.within(0))
                ball = Painting.ball(start, 2)
                self.assertEqual(ball.when(motion, goal, "yes"), gait.within(2))
                halves = some_halves(dice, going, 2)
                lot = Lot(going.plan, halves)
                self.assertEqual(Painting.of_lot(lot).when(motion, goal, "yes"), when(motion, goal, lot))
                for half in halves:
                    word, told = fate(motion, half.wall)
                    self.assertEqual(when(motion, goal, half) ^ when(motion, goal, ~half), ~When.rests(1, []))
                    if word == "beside":
                        self.assertIs(when(motion, goal, ~told).is_finite, True)
                    elif word == "passed":
                        late, early = when(motion, goal, told), when(motion, goal, ~told)
                        self.assertEqual((late.latest(0 - 10 ** 9), early.earliest(10 ** 9)), (None, None))

    def test_maps_and_lots(self):
        dice = Random(6)
        for going in goings(5):
            lot = Lot(going.plan, some_halves(dice, going, 2))
            held = Map(Painting.plain(going.plan, "no"))
            held.fill(Painting.of_lot(lot), "yes")
            counts = Counts(lot, Room(going.plan))
            self.assertEqual(held.count("yes"), counts.total() if counts.is_finite else None)
            first = held.base.rooms("yes", 5)
            self.assertEqual(names(first), names(Row(lot).part(0, len(first))))
            self.assertEqual([held.base.at_distance("yes", distance) for distance in range(8)], counts.row(8))
            room = some_rooms(dice, going, 1, 4)[0]
            self.assertEqual(held[room] == "yes", room in lot)

    def test_places_and_rooms(self):
        dice = Random(7)
        for going in goings(5):
            rooms = hull(some_rooms(dice, going, 2, 4))
            if len(rooms) > 40:
                continue
            closed = Closed.folded(rooms)
            around = Painting.of_closed(closed, ["p" + "abcdefghij"[place % 10] * (1 + place // 10) for place in range(len(closed))])
            self.assertEqual(around.closed()[0], closed)
            self.assertEqual(around.share("pa"), (1, len(closed)))
            start = min(rooms, key=len)
            for room in rooms:
                place = closed.follow(0, start.way_to(room))
                self.assertEqual(len({closed.follow(0, start.way_to(other)) for other in rooms}), len(rooms))
                self.assertEqual(around.seen_from(Room(going.plan, start.way_to(room))), Painting.of_closed(
                    closed.based(place), self.turned(closed, place)))

    def turned(self, closed, place):
        colours = ["p" + "abcdefghij"[at % 10] * (1 + at // 10) for at in range(len(closed))]
        order = [place]
        for start in order:
            order += [end for end in dict.fromkeys(table[start] for table in closed.tables) if end not in order]
        return [colours[at] for at in order]


if __name__ == "__main__":
    unittest.main()
