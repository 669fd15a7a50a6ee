"""[29], with [2] and [53] as far as they speak of rows of rooms."""

import unittest
from random import Random

from crosswalls.counts import Counts
from crosswalls.errors import InvalidNumber, NoSuch, OtherPlan, TooLong, TooMany
from crosswalls.lots import Half, Lot
from crosswalls.plans import Plan
from crosswalls.ranks import Row
from crosswalls.rooms import Room
from crosswalls.walls import Wall
from tests.examples import D, L, NO_STRINGS, P, Q, caught
from tests.floors import all_crossing, ring, small_floors
from tests.lists import is_surely_finite, some_lots

RING = Plan.ring("abcde")
NO_NUMBERS = [-1, -10 ** 50, True, False, 1.0, 0.5, "1", "", None, [], [1], (1,), {}, P, Room(P)]


def names(rooms):
    return [room.name for room in rooms]


def empty_lot(plan):
    wall = Wall(Room(plan), "a")
    return Lot(plan, [Half(wall), Half(wall, True)])


class ExamplesTest(unittest.TestCase):

    def test_row(self):
        row = Row(Lot(RING))
        one = Half(Wall(Room(RING), "a"), True)
        found = (names(row.part(5, 9)), row.number_of(Room(RING, "ca")), Row(Lot(RING, [one]))[2].name)
        self.assertEqual(found, (["e", "ab", "ac", "ad"], 13, "ac"))


class RowTest(unittest.TestCase):

    def test_against_all_rooms_near_by(self):
        dice = Random(1)
        finite = 0
        for near in small_floors(8, 5):
            for lot, halves, rooms in some_lots(dice, near, 2, 5, 6):
                row = Row(lot)
                self.assertEqual([row[at].name for at in range(len(rooms))], rooms)
                self.assertEqual(names(row.part(0, len(rooms))), rooms)
                start = len(rooms) // 3
                self.assertEqual(names(row.part(start, len(rooms))), rooms[start:])
                if is_surely_finite(near, rooms):
                    self.check_end(row, len(rooms))
                    finite += bool(rooms)
        self.assertGreater(finite, 8)

    def check_end(self, row, many):
        for rank in (many, many + 1, many + 2000, 10 ** 100):
            self.assertEqual(caught(NoSuch, lambda: row[rank]).rank, rank)
        self.assertEqual(caught(NoSuch, lambda: row.part(0, many + 1)).rank, many)
        self.assertEqual(caught(NoSuch, lambda: row.part(many, many + 3)).rank, many + 2)
        self.assertEqual(row.part(many, many), [])

    def test_number_of(self):
        dice = Random(2)
        for near in small_floors(7, 5):
            for lot, halves, rooms in some_lots(dice, near, 2, 5, 4):
                row = Row(lot)
                place = {name: at for at, name in enumerate(near.names)}
                for name in near.names[::3] + near.names[-3:]:
                    wanted = sum(place[other] < place[name] for other in rooms)
                    self.assertEqual(row.number_of(near.room(name)), wanted)

    def test_attribute_and_in(self):
        half = Half(Wall(Room(P), "a"), True)
        for lot in (Lot(P), Lot(P, [half]), empty_lot(P)):
            row = Row(lot=lot)
            self.assertIs(row.lot, lot)
            for room in (Room(P), Room(P, "a"), Room(P, "bca"), Room(D, "a")):
                self.assertIs(room in row, room in lot)
            for value in NO_STRINGS + ["", "a", lot, row, 0]:
                if not isinstance(value, Room):
                    self.assertIs(value in row, False)

    def test_no_such(self):
        for row in (Row(Lot(P)), Row(empty_lot(P)), Row(Lot(Plan("")))):
            for value in NO_NUMBERS + [slice(0, 2)]:
                self.assertIs(caught(NoSuch, lambda: row[value]).rank, value)
        self.assertEqual(caught(NoSuch, lambda: Row(empty_lot(P))[0]).rank, 0)
        self.assertEqual(caught(NoSuch, lambda: Row(Lot(Plan("")))[1]).rank, 1)
        self.assertEqual(Row(Lot(Plan("")))[0], Room(Plan("")))

    def test_finite_plans(self):
        plan = Plan("abcde", all_crossing("abcde"))
        row = Row(Lot(plan))
        self.assertEqual((len(row.part(0, 32)), row[31].name), (32, "abcde"))
        self.assertEqual(caught(NoSuch, lambda: row[32]).rank, 32)

    def test_part(self):
        row = Row(Lot(L))
        self.assertEqual(names(row.part(start=1, stop=4)), ["a", "b", "ab"])
        for start, stop in ((0, 0), (5, 5), (7, 3), (10 ** 100, 10 ** 100), (10 ** 100, 0)):
            self.assertEqual(row.part(start, stop), [])
        self.assertEqual(len(row.part(5, 2005)), 2000)
        for start, stop in ((0, 2001), (5, 2006), (0, 10 ** 100)):
            self.assertEqual(caught(TooMany, lambda: row.part(start, stop)).most, 2000)
        row.part(0, 2).clear()
        self.assertEqual(len(row.part(0, 2)), 2)

    def test_errors_of_part_and_their_order(self):
        for row in (Row(Lot(L)), Row(empty_lot(L))):
            for value in NO_NUMBERS:
                for other in (0, 10 ** 100, -1, None):
                    self.assertIs(caught(InvalidNumber, lambda: row.part(value, other)).value, value)
                for start in (0, 10 ** 100):
                    self.assertIs(caught(InvalidNumber, lambda: row.part(start, value)).value, value)
        row = Row(Lot.around([Room(L), Room(L, "ab")]))
        self.assertEqual(names(row.part(0, 3)), ["", "a", "ab"])
        self.assertEqual(caught(NoSuch, lambda: row.part(0, 4)).rank, 3)
        self.assertEqual(caught(NoSuch, lambda: row.part(0, 2000)).rank, 1999)
        self.assertEqual(caught(TooMany, lambda: row.part(0, 2001)).most, 2000)
        self.assertEqual((row.part(3, 3), row.part(9, 9), row.part(9, 4)), ([], [], []))
        row = Row(empty_lot(L))
        self.assertEqual(row.part(0, 0), [])
        self.assertEqual(caught(NoSuch, lambda: row.part(0, 1)).rank, 0)
        self.assertEqual(row.number_of(Room(L, "abab")), 0)

    def test_other_plan(self):
        for row in (Row(Lot(P)), Row(empty_lot(P))):
            caught(OtherPlan, lambda: row.number_of(Room(D)))
            caught(OtherPlan, lambda: row.number_of(room=Room(L)))
        self.assertEqual(Row(Lot(P)).number_of(Room(Plan("cba", ["ba", "cb"]), "b")), 2)

    def test_finite_boxes(self):
        plan = Plan("ad") * Plan("bc")
        sides = ["adadad", "dadada", "bcbcbc", "cbcbcb"]
        lot = Lot(plan, [Half(Wall(Room(plan, side), side[0])) for side in sides])
        rooms = lot.rooms()
        row = Row(lot)
        self.assertEqual(len(rooms), 13 * 13)
        self.assertEqual([row[at] for at in range(169)], rooms)
        self.assertEqual([row.number_of(room) for room in rooms], list(range(169)))
        self.assertEqual(caught(NoSuch, lambda: row[169]).rank, 169)


class FarTest(unittest.TestCase):

    def some_rows(self):
        dice = Random(3)
        pairs = all_crossing("abcdefgh")
        for plan in (
            RING, Q, Plan("abc"), Plan("abcdefgh", ring("abcdefgh")),
            Plan("abcdefgh", [pair for pair in pairs if pair not in ("ae", "bf", "cg", "dh")]),
            Plan("abcdefgh", [pair for pair in pairs if dice.randrange(100) < 60]),
        ):
            kinds = plan.kinds
            yield Row(Lot(plan))
            for many in (2, 4):
                rooms = [Room(plan, "".join(dice.choice(kinds) for _ in range(12))) for _ in range(many)]
                yield Row(Lot(plan, [Half(Wall(room, dice.choice(kinds)), at == 0) for at, room in enumerate(rooms)]))

    def test_far_rooms_and_back(self):
        dice = Random(4)
        for row in self.some_rows():
            lot = row.lot
            counts = Counts(lot, Room(lot.plan))
            for distance in (9, 20, 29):
                before, after = counts.within(distance - 1), counts.within(distance)
                ranks = [before, after - 1, dice.randrange(before, after), dice.randrange(before, after)] if before < after else []
                for rank in ranks:
                    room = row[rank]
                    self.assertIs(room in lot, True)
                    self.assertEqual((len(room), row.number_of(room)), (distance, rank))
                    self.assertEqual(row.part(rank, rank + 2)[0], room)

    def test_neighbours_far_on(self):
        for row in self.some_rows():
            if row.lot and not Counts(row.lot, Room(row.lot.plan)).is_finite:
                rooms = row.part(12345, 14345)
                self.assertEqual(len(rooms), 2000)
                order = [(len(room), room.name) for room in rooms]
                self.assertEqual(order, sorted(set(order)))
                self.assertTrue(all(room in row for room in rooms[::50]))
                self.assertEqual([row.number_of(room) for room in rooms[::100]], list(range(12345, 14345, 100)))

    def test_number_of_rooms_outside(self):
        # The far half of a and the near one have all rooms between them.
        plan = RING
        wall = Wall(Room(plan), "a")
        rows = [Row(Lot(plan)), Row(Lot(plan, [Half(wall)])), Row(Lot(plan, [Half(wall, True)]))]
        dice = Random(5)
        for _ in range(30):
            room = Room(plan, "".join(dice.choice("abcde") for _ in range(30)))
            whole, near, far = [row.number_of(room) for row in rows]
            self.assertEqual(whole, near + far)

    def test_farther_than_usual(self):
        row = Row(Lot(L))
        self.assertEqual((row[399].name, row[400].name), ("ab" * 100, "ba" * 100))
        self.assertEqual(row.number_of(Room(L, "ba" * 90)), 360)
        self.assertEqual(names(row.part(100, 102)), ["ba" * 25, "ab" * 25 + "a"])
        self.assertEqual(row[4000].name, "ba" * 1000)
        start = Half(Wall(Room(L, "ab" * 50), "a"), True)
        self.assertEqual([len(room) for room in Row(Lot(L, [start])).part(0, 3)], [101, 102, 103])

    def test_rooms_that_are_too_long(self):
        row = Row(Lot(L))
        for rank, length in ((4001, 2001), (4002, 2001), (10 ** 6, 500000), (2 * 10 ** 100 - 1, 10 ** 100)):
            self.assertEqual(caught(TooLong, lambda: row[rank]).length, length)
            self.assertEqual(caught(TooLong, lambda: row.part(rank, rank + 5)).length, length)
        self.assertEqual(len(row.part(3900, 4001)), 101)
        self.assertEqual(caught(TooLong, lambda: row.part(3990, 4100)).length, 2001)
        # A floor where the rooms at each distance are more and more.
        squares, tree = Row(Lot(Q)), Row(Lot(Plan("abc")))
        for distance in (2001, 2002, 10 ** 50):
            first = 2 * distance * (distance - 1) + 1
            self.assertEqual(caught(TooLong, lambda: squares[first]).length, distance)
            self.assertEqual(caught(TooLong, lambda: squares[first + 4 * distance - 1]).length, distance)
        self.assertEqual(len(squares[2 * 2000 * 1999]), 1999)
        self.assertEqual((len(tree[10 ** 100]), caught(TooLong, lambda: tree[2 ** 2500]).length), (331, 2499))

    def test_finite_lots_that_go_far(self):
        lot = Lot(L, [Half(Wall(Room(L, "ab" * 50), "a"))])
        row = Row(lot & Lot(L, [Half(Wall(Room(L), "a"), True)]))
        self.assertEqual((row[99].name, caught(NoSuch, lambda: row[100]).rank), ("ab" * 50, 100))
        self.assertEqual(caught(NoSuch, lambda: row.part(50, 101)).rank, 100)
        self.assertEqual(names(row.part(98, 100)), ["ab" * 49 + "a", "ab" * 50])


if __name__ == "__main__":
    unittest.main()
