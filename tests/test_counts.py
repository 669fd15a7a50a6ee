"""[12], [28], with [2] and [53] as far as they speak of counts."""

import inspect
import unittest
from random import Random

from crosswalls.counts import Counts
from crosswalls.errors import Endless, InvalidNumber, OtherPlan, TooFar
from crosswalls.lots import Half, Lot
from crosswalls.plans import Plan
from crosswalls.rooms import Room
from crosswalls.walls import Wall
from tests.examples import D, L, NO_STRINGS, P, Q, all_pairs, caught
from tests.floors import all_crossing, floor, ring, small_floors
from tests.lists import is_surely_finite, lot_of, some_lots

RING = Plan.ring("abcde")
HUGE = 10 ** 100
NO_NUMBERS = [-1, -HUGE, True, False, 1.0, 0.5, "1", "", None, [], [1], (1,), {}, P, Room(P)]


def multiplied(one, other):
    found = [0] * (len(one) + len(other))
    for at, number in enumerate(one):
        for place, factor in enumerate(other):
            found[at + place] += number * factor
    return found


def added(one, other, factor=1):
    longer = max(len(one), len(other))
    one, other = [list(row) + [0] * (longer - len(row)) for row in (one, other)]
    return [a + factor * b for a, b in zip(one, other)]


def cut(row):
    row = list(row)
    while row and row[-1] == 0:
        row.pop()
    return tuple(row)


def power(row, many):
    found = [1]
    for _ in range(many):
        found = multiplied(found, row)
    return found


def crossing_subsets(members, cross):
    """All sets of members of which each two cross."""
    found = [()]
    for member in members:
        found += [chosen + (member,) for chosen in found if all(cross(member, other) for other in chosen)]
    return found


def greatest(plan):
    return max(len(chosen) for chosen in crossing_subsets(plan.kinds, plan.crosses))


def below(plan):
    """N, as [12] tells it."""
    most = greatest(plan)
    found = []
    for chosen in crossing_subsets(plan.kinds, plan.crosses):
        found = added(found, multiplied(power([0, -1], len(chosen)), power([1, 1], most - len(chosen))))
    return cut(found)


def above(near, lot, room, rooms):
    """M, as [12] tells it; the rooms are those of the lot near home. None where they are too few to tell."""
    if not rooms:
        return ()
    apart = min(near.distance(room, other) for other in rooms)
    gate = next(other for other in rooms if near.distance(room, other) == apart)
    most = greatest(near.plan)
    found = []
    halves = [((half.wall.room.name, half.wall.kind), half.far) for half in lot.halves]
    for chosen in crossing_subsets(halves, lambda one, other: near.wall(one[0]).crosses(near.wall(other[0]))):
        outside = near.having([(wall, not far) for wall, far in chosen])
        least = min(near.distance(gate, other) for other in outside)
        if len(gate) + least > near.far:
            return None
        row = multiplied(power([0, 1], least + apart), power([1, 1], most - len(chosen)))
        found = added(found, row, (-1) ** len(chosen))
    return cut(found)


def numbers(near, room, rooms, many):
    """How many of the rooms there are at the distances 0 to many - 1."""
    apart = [near.distance(room, other) for other in rooms]
    return [apart.count(distance) for distance in range(many)]


class ExamplesTest(unittest.TestCase):

    def test_counts(self):
        home = Room(RING)
        one = Half(Wall(home, "a"), True)
        whole, half = Counts(Lot(RING), home), Counts(Lot(RING, [~one]), home)
        found = (whole.above, whole.below, whole.row(5), half.above, half.row(4), half.within(3))
        self.assertEqual(found, ((1, 2, 1), (1, -3, 1), [1, 5, 15, 40, 105], (1, 1), [1, 4, 11, 29], 45))
        some = Counts(Lot.around([home, Room(RING, "abd")]), home)
        self.assertEqual((half.at(HUGE, modulo=2), half.first_apart(whole), some.total()), (0, 1, 5))
        strip = Lot(Q, [Half(Wall(Room(Q, "a"), "c")), Half(Wall(Room(Q, "c"), "a"))])
        self.assertEqual(Counts(strip, Room(Q)).row(5), [1, 4, 6, 6, 6])


class PolynomialsTest(unittest.TestCase):

    def test_above_and_below(self):
        dice = Random(1)
        told = outside = 0
        for near in small_floors(8, 6):
            wanted = below(near.plan)
            for lot, halves, rooms in some_lots(dice, near, 1, 4, 6):
                name = dice.choice(near.within(2))
                counts = Counts(lot, near.room(name))
                self.assertEqual(counts.below, wanted)
                found = above(near, lot, name, rooms)
                if found is not None:
                    self.assertEqual(counts.above, found)
                    told += 1
                    outside += bool(rooms) and name not in rooms
        self.assertGreater(told, 80)
        self.assertGreater(outside, 20)

    def test_plans_of_no_to_six_kinds(self):
        dice = Random(2)
        for many in range(7):
            kinds = "abcdef"[:many]
            for share in (0, 30, 60, 100):
                plan = Plan(kinds, [pair for pair in all_pairs(kinds) if dice.randrange(100) < share])
                counts = Counts(Lot(plan), Room(plan))
                self.assertEqual(counts.below, below(plan))
                self.assertEqual(counts.above, cut(power([1, 1], greatest(plan))))

    def test_kinds_and_no_noughts(self):
        for lot in (Lot(P), Lot(P, [Half(Wall(Room(P), kind)) for kind in "abc"])):
            counts = Counts(lot, Room(P, "b"))
            for row in (counts.above, counts.below):
                self.assertIs(type(row), tuple)
                self.assertNotEqual(row[-1], 0)
        # Of one kind alone N is (1 + x) - x.
        self.assertEqual(Counts(Lot(Plan("a")), Room(Plan("a"))).below, (1,))
        self.assertEqual((counts.lot, counts.room), (lot, Room(P, "b")))

    def test_a_lot_of_many_halves(self):
        # Around rooms there may be many more halves than a lot of other halves has.
        rooms = [Room(RING, way) for way in ("", "abdacebd", "ecacbd")]
        lot = Lot.around(rooms)
        self.assertGreater(len(lot.halves), 12)
        for room in (Room(RING), Room(RING, "bdbd")):
            counts = Counts(lot, room)
            apart = [room.distance(other) for other in lot.rooms()]
            row = [apart.count(distance) for distance in range(30)]
            self.assertEqual(counts.above, cut(multiplied(row, counts.below)))
            self.assertEqual((counts.row(30), counts.total(), counts.farthest()), (row, len(apart), max(apart)))
            self.assertEqual((counts.begin, counts.is_finite), (min(apart), True))

    def test_many_halves_that_are_endless(self):
        around = Lot.around([Room(RING, way) for way in ("", "ac", "db", "ec", "bd")])
        near = floor("abcde", ring("abcde"), 6)
        for left_out in (0, 5, -1):
            lot = Lot(RING, [half for half in around.halves if half != around.halves[left_out]])
            self.assertGreater(len(lot.halves), 12)
            counts = Counts(lot, Room(RING))
            rooms = near.having([((half.wall.room.name, half.wall.kind), half.far) for half in lot.halves])
            self.assertEqual(counts.above, above(near, lot, "", rooms))
            self.assertEqual((counts.row(7), counts.is_finite), (numbers(near, "", rooms, 7), False))


class NumbersTest(unittest.TestCase):

    def test_against_counting_one_by_one(self):
        dice = Random(3)
        for near in small_floors(8, 6):
            for lot, halves, rooms in some_lots(dice, near, 1, 6, 8):
                for name in (dice.choice(near.within(1)), dice.choice(near.within(2))):
                    counts = Counts(lot, near.room(name))
                    many = near.far - len(name) + 1
                    wanted = numbers(near, name, rooms, many)
                    self.assertEqual(counts.row(many), wanted)
                    self.assertEqual([counts.at(n) for n in range(many)], wanted)
                    self.assertEqual([counts.within(n) for n in range(many)], [sum(wanted[:n + 1]) for n in range(many)])
                    begin = next((n for n in range(many) if wanted[n]), None)
                    if begin is not None or not rooms:
                        self.assertEqual(counts.begin, begin)

    def test_rooms_of_the_lot_and_outside(self):
        half = Half(Wall(Room(RING), "a"), True)
        for name in ("", "a", "bb", "cd", "abab", "aca"):
            counts = Counts(Lot(RING, [half]), Room(RING, name))
            self.assertEqual(counts.begin, Lot(RING, [half]).distance(Room(RING, name)))
            self.assertEqual((counts.at(0), counts.is_finite), (int(Room(RING, name) in half), False))

    def lots(self):
        home = Room(RING)
        one, two = Half(Wall(home, "a"), True), Half(Wall(home, "b"), True)
        finite = Lot.around([home, Room(RING, "abdab")])
        for lot in (Lot(RING), Lot(RING, [~one]), Lot(RING, [one, two]), finite, Lot(RING, [one, ~one])):
            for room in (home, Room(RING, "cac")):
                yield Counts(lot, room)

    def test_at_and_within_with_a_modulo(self):
        for counts in self.lots():
            for n in (0, 1, 2, 3, 7, 30, 64, 999, 1000, 1999, 2000):
                for modulo in (1, 2, 3, 10 ** 9 + 7, HUGE, 10 ** 1000):
                    self.assertEqual(counts.at(n, modulo=modulo), counts.at(n) % modulo)
                    self.assertEqual(counts.within(n, modulo=modulo), counts.within(n) % modulo)

    def test_all_n_up_to_two_thousand(self):
        for counts in list(self.lots())[:4]:
            row = counts.row(2000)
            found = 0
            for n in range(0, 2000):
                found += row[n]
                if n % 37 == 0 or n > 1990:
                    self.assertEqual((counts.at(n), counts.within(n)), (row[n], found))
                    self.assertEqual(counts.within(n, modulo=9973), found % 9973)

    def test_the_recurrence_far_on(self):
        # c(n) + b(1) c(n - 1) + .. is 0 behind the end of M.
        for counts in self.lots():
            for n in (HUGE, HUGE + 1, 3 ** 200, 10 ** 400 + 7):
                for modulo in (1, 2, 97, 2 ** 89 - 1):
                    found = [counts.at(n - back, modulo=modulo) for back in range(len(counts.below))]
                    self.assertEqual(sum(a * b for a, b in zip(counts.below, found)) % modulo, 0)
                    step = counts.within(n, modulo=modulo) - counts.within(n - 1, modulo=modulo)
                    self.assertEqual(step % modulo, found[0])

    def test_far_on_in_closed_form(self):
        # On the line there are two rooms at each distance; on the floor of squares 4 n.
        line, squares = Counts(Lot(L), Room(L)), Counts(Lot(Q), Room(Q, "abc"))
        tree = Counts(Lot(Plan("abc")), Room(Plan("abc")))
        for n in (1, 2, 1999, HUGE, 7 ** 150):
            self.assertEqual(line.at(n, modulo=HUGE), 2)
            self.assertEqual(line.within(n, modulo=3 ** 50), (2 * n + 1) % 3 ** 50)
            self.assertEqual(squares.at(n, modulo=12345), 4 * n % 12345)
            self.assertEqual(squares.within(n, modulo=12345), (2 * n * (n + 1) + 1) % 12345)
            self.assertEqual(tree.at(n, modulo=10 ** 9 + 7), 3 * pow(2, n - 1, 10 ** 9 + 7) % (10 ** 9 + 7))
        self.assertEqual((tree.at(2000), tree.within(2000)), (3 * 2 ** 1999, 3 * 2 ** 2000 - 2))

    def test_finite_lots_far_on(self):
        counts = Counts(Lot.around([Room(RING), Room(RING, "abd")]), Room(RING))
        for n in (3, 4, 5, 2000):
            self.assertEqual((counts.at(n), counts.within(n)), (int(n == 3), 5))
        self.assertEqual((counts.at(HUGE, modulo=7), counts.within(HUGE, modulo=7)), (0, 5))
        self.assertEqual(counts.within(HUGE, modulo=5), 0)

    def test_edges(self):
        counts = Counts(Lot(L), Room(L))
        self.assertEqual((counts.at(0), counts.within(0), counts.at(2000), counts.within(2000)), (1, 1, 2, 4001))
        self.assertEqual((counts.row(0), counts.row(1), len(counts.row(2000))), ([], [1], 2000))
        self.assertEqual((counts.at(n=0, modulo=None), counts.within(n=2, modulo=None), counts.row(many=2)), (1, 5, [1, 2]))
        self.assertEqual((counts.at(0, modulo=1), counts.within(HUGE, modulo=1)), (0, 0))
        self.assertEqual(caught(TooFar, lambda: counts.at(2001)).number, 2001)
        self.assertEqual(caught(TooFar, lambda: counts.within(2001)).number, 2001)
        self.assertEqual(caught(TooFar, lambda: counts.at(HUGE, modulo=None)).number, HUGE)
        self.assertEqual(caught(TooFar, lambda: counts.row(2001)).number, 2001)
        self.assertEqual(counts.at(2001, modulo=5), 2)
        counts.row(3).clear()
        self.assertEqual(counts.row(3), [1, 2, 2])

    def test_invalid_numbers(self):
        counts = Counts(Lot(L), Room(L))
        for value in NO_NUMBERS:
            for deed in (
                lambda: counts.at(value), lambda: counts.within(value), lambda: counts.row(value),
                lambda: counts.at(value, modulo=0), lambda: counts.within(value, modulo="x"),
                lambda: counts.at(value, modulo=3),
            ):
                self.assertIs(caught(InvalidNumber, deed).value, value)
        for value in NO_NUMBERS + [0]:
            if value is not None:
                for n in (0, 2000, 2001, HUGE):
                    self.assertIs(caught(InvalidNumber, lambda: counts.at(n, modulo=value)).value, value)
                    self.assertIs(caught(InvalidNumber, lambda: counts.within(n, modulo=value)).value, value)
        for method in (Counts.at, Counts.within):
            self.assertEqual(inspect.signature(method).parameters["modulo"].kind, inspect.Parameter.KEYWORD_ONLY)

    def test_other_plan(self):
        caught(OtherPlan, lambda: Counts(Lot(P), Room(D)))
        caught(OtherPlan, lambda: Counts(lot=Lot(L), room=Room(D)))
        wall = Wall(Room(P), "a")
        caught(OtherPlan, lambda: Counts(Lot(P, [Half(wall), Half(wall, True)]), Room(D)))
        self.assertEqual(Counts(room=Room(Plan("ba")), lot=Lot(L)).row(2), [1, 2])


class FiniteTest(unittest.TestCase):

    def test_total_farthest_and_is_finite(self):
        dice = Random(4)
        finite = endless = 0
        for near in small_floors(7, 5):
            for lot, halves, rooms in some_lots(dice, near, 1, 9, 10):
                name = dice.choice(near.within(1))
                counts = Counts(lot, near.room(name))
                if is_surely_finite(near, rooms):
                    apart = [near.distance(name, other) for other in rooms]
                    self.assertEqual((counts.total(), counts.farthest()), (len(rooms), max(apart, default=None)))
                    self.assertIs(counts.is_finite, True)
                    finite += 1
                elif not near.plan.is_finite:
                    caught(Endless, counts.total)
                    caught(Endless, counts.farthest)
                    self.assertIs(counts.is_finite, False)
                    endless += 1
        self.assertGreater(finite, 30)
        self.assertGreater(endless, 40)

    def test_empty_lots(self):
        wall = Wall(Room(P), "a")
        counts = Counts(Lot(P, [Half(wall), Half(wall, True)]), Room(P, "b"))
        self.assertEqual((counts.above, counts.below), ((), Counts(Lot(P), Room(P)).below))
        self.assertEqual((counts.total(), counts.farthest(), counts.begin, counts.is_finite), (0, None, None, True))
        self.assertEqual((counts.row(3), counts.at(5), counts.within(2000), counts.at(HUGE, modulo=3)), ([0] * 3, 0, 0, 0))

    def test_finite_plans(self):
        for kinds in ("", "a", "abcd"):
            plan = Plan(kinds, all_crossing(kinds))
            counts = Counts(Lot(plan), Room(plan))
            self.assertEqual((counts.total(), counts.farthest()), (2 ** len(kinds), len(kinds)))
            self.assertEqual(counts.below, (1,))

    def test_huge_finite_lots(self):
        # A box of 61 rooms along each of four lines, too many to go over.
        plan = Plan("ab") * Plan("cd") * Plan("ef") * Plan("gh")
        halves = [Half(Wall(Room(plan, (one + other) * 15), one)) for one, other in ("ab", "ba", "cd", "dc", "ef", "fe", "gh", "hg")]
        counts = Counts(Lot(plan, halves), Room(plan))
        self.assertEqual((counts.total(), counts.farthest(), counts.begin), (61 ** 4, 120, 0))
        self.assertEqual(counts.row(2), [1, 8])

    def test_begin(self):
        lot = Lot(P, [Half(Wall(Room(P, "b"), "c"), True)])
        for name, begin in (("", 1), ("c", 0), ("b", 1), ("ac", 2), ("abac", 1)):
            self.assertEqual(Counts(lot, Room(P, name)).begin, lot.distance(Room(P, name)))


class ApartTest(unittest.TestCase):

    def test_first_apart_and_equal(self):
        dice = Random(5)
        some = []
        for near in small_floors(6, 5):
            for lot, halves, rooms in some_lots(dice, near, 1, 3, 2):
                some.append(Counts(lot, near.room(dice.choice(near.within(1)))))
        rows = [counts.row(60) for counts in some]
        for one, row in zip(some, rows):
            for other, its_row in zip(some, rows):
                first = next((n for n in range(60) if row[n] != its_row[n]), None)
                self.assertEqual(one.first_apart(other), first)
                self.assertIs(one == other, first is None)
                self.assertIs(one != other, first is not None)

    def test_far_apart(self):
        one = Lot(L, [Half(Wall(Room(L, "ab" * 30), "a"))])
        other = Lot(L, [Half(Wall(Room(L, "ba" * 30), "b"))])
        self.assertEqual(Counts(one, Room(L)).first_apart(Counts(Lot(L), Room(L))), 61)
        self.assertEqual(Counts(one, Room(L)), Counts(other, Room(L)))
        self.assertEqual(Counts(one, Room(L)).first_apart(other=Counts(other, Room(L, "b"))), 60)

    def test_plans_may_differ(self):
        # One wall's two sides, and the kinds of a tree by other names.
        one, other = Plan("abc"), Plan("xyz")
        self.assertEqual(Counts(Lot(one), Room(one, "ab")), Counts(Lot(other), Room(other)))
        flat = Plan("ab") * Plan("cd")
        self.assertEqual(Counts(Lot(flat), Room(flat)), Counts(Lot(Q), Room(Q)))
        point = Counts(Lot(Plan("")), Room(Plan("")))
        self.assertEqual(point, Counts(Lot.around([Room(Q, "ab")]), Room(Q, "ab")))
        self.assertEqual(point.first_apart(Counts(Lot.around([Room(Q, "ab")]), Room(Q))), 0)

    def test_unequal_to_others(self):
        counts = Counts(Lot(L), Room(L))
        for value in NO_STRINGS + [Lot(L), Room(L), (1, 1), counts.above, "ab"]:
            self.assertIs(counts == value, False)


class LimitsTest(unittest.TestCase):

    def test_twelve_halves_and_far_rooms(self):
        dice = Random(6)
        plan = Plan("abcdefgh", ring("abcdefgh"))
        ways = ["aceg" * 15, "geca" * 15, "bdfh" * 15]
        lot = Lot(plan, [Half(Wall(Room(plan, way), kind)) for way in ways for kind in "abdh"])
        room = Room(plan, "".join(dice.choice(plan.kinds) for _ in range(200)))
        counts = Counts(lot, room)
        self.assertEqual((counts.begin, counts.is_finite), (lot.distance(room), False))
        beside = [other for other in [lot.gate(room)[kind] for kind in plan.kinds] if other in lot]
        self.assertEqual(counts.row(counts.begin + 2)[-2:], [1, len(beside)])
        self.assertEqual(counts.within(2000) % 97, counts.within(2000, modulo=97))


if __name__ == "__main__":
    unittest.main()
