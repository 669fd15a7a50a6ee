"""[14], [37] to [41], with [2] and [53] as far as they speak of closed floors."""

import unittest
from random import Random

from crosswalls.closed import Closed
from crosswalls.errors import BadTables, InvalidRenaming, InvalidTable, InvalidWay, NoPlace, NoRooms, NotExchanged, NotHull, OtherPlan, TooLong
from crosswalls.plans import Plan
from crosswalls.rooms import Room
from tests.examples import D, L, NO_STRINGS, P, Q, caught
from tests.tables import all_mirrors, every_floor, lists, some_tables, state_after
from tests.test_motions import NO_RENAMINGS

TRIPLE = Plan("abc", ["ab", "bc", "ac"])


def some_closed(dice, plan, most=6):
    """A closed floor, and the tables that were passed."""
    tables = some_tables(dice, plan, all_mirrors(dice.randrange(1, most + 1)))
    return Closed(plan, lists(tables)), tables


def found_places(plan, tables, first=0):
    """The passed places in the order in which they are found."""
    order = [first]
    for place in order:
        order += [other for other in dict.fromkeys(table[place] for table in tables) if other not in order]
    return order


class ExamplesTest(unittest.TestCase):

    def test_examples(self):
        plan = Plan("ab")
        one, two = Closed(plan, [[1, 0], [0, 1]]), Closed(plan, [[0, 1], [1, 0]])
        self.assertEqual((one.at(Room(plan, "aba")), one.ways(), len(one & two), len(one | two)), (0, ("b", "aba"), 4, 1))
        line = Closed.folded([Room(plan, "ab"), Room(plan), Room(plan, "a")])
        self.assertEqual((line.tables, len(line)), (((1, 0, 2), (0, 2, 1)), 3))


class MakingTest(unittest.TestCase):

    def test_numbers(self):
        dice = Random(1)
        for near in every_floor():
            for _ in range(12):
                closed, tables = some_closed(dice, near.plan)
                order = found_places(near.plan, tables)
                wanted = tuple(tuple(order.index(table[place]) for place in order) for table in tables)
                self.assertEqual((closed.plan, closed.tables, len(closed)), (near.plan, wanted, len(order)))
                self.assertIs(type(closed.tables), tuple)
                self.assertEqual(Closed(tables=tuple(closed.tables), plan=near.plan), closed)

    def test_without_kinds(self):
        for tables in ([], ()):
            closed = Closed(Plan(""), tables)
            self.assertEqual((closed.tables, len(closed), closed.at(Room(Plan(""))), closed.ways(), closed.alike()), ((), 1, 0, (), (0,)))
            self.assertEqual((closed & closed, closed | closed, closed <= closed), (closed, closed, True))
        for value in ([[]], [[0]], ((),), [0]):
            self.assertIs(caught(BadTables, lambda: Closed(Plan(""), value)).value, value)

    def test_copies(self):
        tables = [[1, 0], [0, 1]]
        closed = Closed(L, tables)
        tables[0][0] = 0
        tables.append([])
        self.assertEqual(closed.tables, ((1, 0), (0, 1)))

    def test_bad_tables(self):
        wrong = [[[0, 1]], [[0], [0], [0]], [[], []], [[0, 1], [0]], [[0], [0, 1]], [[0, 1], "01"], [[0, 1], [0, True]], [[0], [0.0]],
                 [[0, 1], [0, None]], [[0, 1], 5], "ab", [[0, 1], {0: 0, 1: 1}], [[0, "1"], [0, 1]], [[0], [False]]]
        for value in wrong + NO_STRINGS + ["", "ab"]:
            self.assertIs(caught(BadTables, lambda: Closed(L, value)).value, value)

    def test_invalid_entries(self):
        for tables, told in (
            ([[0, 2], [0, 1]], ("a", 1)), ([[-1, 1], [5, 5]], ("a", 0)), ([[0, 1], [0, -1]], ("b", 1)), ([[1, 1], [0, 1]], ("a", 0)),
            ([[0, 0], [0, 1]], ("a", 1)), ([[1, 2, 0], [0, 1, 2]], ("a", 0)), ([[0, 1], [1, 10 ** 40]], ("b", 0)),
        ):
            error = caught(InvalidTable, lambda: Closed(L, tables))
            self.assertEqual((error.kind, error.place), told)
        # The place is the number that was passed, also where it is found later or not at all.
        error = caught(InvalidTable, lambda: Closed(L, [[3, 1, 2, 0], [0, 1, 3, 3]]))
        self.assertEqual((error.kind, error.place), ("b", 2))

    def test_not_exchanged(self):
        plan = Plan("abc", ["ac", "bc"])
        error = caught(NotExchanged, lambda: Closed(plan, [[0, 1, 2], [1, 0, 2], [0, 2, 1]]))
        self.assertEqual((error.place, error.first, error.second), (0, "b", "c"))
        error = caught(NotExchanged, lambda: Closed(plan, [[0, 1, 3, 2], [0, 1, 2, 3], [0, 2, 1, 3]]))
        self.assertEqual((error.place, error.first, error.second), (1, "a", "c"))
        caught(InvalidTable, lambda: Closed(plan, [[1, 0, 2], [1, 0, 2], [0, 2, 2]]))

    def test_not_exchanged_against_all_places(self):
        dice = Random(2)
        for near in every_floor():
            for _ in range(10):
                tables = [dice.choice(all_mirrors(4)) for _ in near.plan.kinds]
                wrong = [(place, pair) for place in range(4) for pair in near.plan.pairs
                         if len({state_after(near.plan, tables, way, place) for way in (pair, pair[::-1])}) == 2]
                if wrong:
                    error = caught(NotExchanged, lambda: Closed(near.plan, tables))
                    self.assertEqual((error.place, error.first + error.second), min(wrong))
                else:
                    Closed(near.plan, tables)

    def test_equal(self):
        dice = Random(3)
        for near in every_floor():
            made = [some_closed(dice, near.plan, 3)[0] for _ in range(8)]
            for one in made:
                for other in made:
                    self.assertIs(one == other, one.tables == other.tables)
        closed = Closed(L, [[1, 0], [0, 1]])
        for value in NO_STRINGS + [closed.tables, Closed(Plan("ab", ["ab"]), [[1, 0], [0, 1]]), Closed(Plan("ac"), [[1, 0], [0, 1]])]:
            self.assertIs(closed == value, False)
            self.assertIs(closed != value, True)


class PlacesTest(unittest.TestCase):

    def test_following(self):
        dice = Random(4)
        for near in every_floor():
            for _ in range(6):
                closed, tables = some_closed(dice, near.plan)
                order = found_places(near.plan, tables)
                for name in near.names[::3]:
                    place = order.index(state_after(near.plan, tables, name))
                    self.assertEqual((closed.at(near.room(name)), closed.follow(0, name)), (place, place))
                    for start in range(len(closed)):
                        wanted = order.index(state_after(near.plan, tables, name[::-1], order[start]))
                        self.assertEqual(closed.follow(place=start, way=name[::-1]), wanted)

    def test_errors(self):
        closed = Closed(L, [[1, 0], [0, 1]])
        caught(OtherPlan, lambda: closed.at(Room(P)))
        for value in NO_STRINGS + ["", "0", 2]:
            if type(value) is int and value in (0, 1):
                continue
            self.assertIs(caught(NoPlace, lambda: closed.follow(value, 5)).place, value)
            self.assertIs(caught(NoPlace, lambda: closed.based(value)).place, value)
        self.assertEqual(caught(InvalidWay, lambda: closed.follow(0, "abx")).index, 2)
        self.assertEqual(caught(InvalidWay, lambda: closed.follow(0, None)).index, 0)
        self.assertEqual(caught(TooLong, lambda: closed.follow(0, "ab" * 1001)).length, 2002)
        self.assertEqual(closed.follow(1, "ab" * 1000), 1)
        for value in NO_RENAMINGS + NO_STRINGS:
            if value != "ab":
                self.assertIs(caught(InvalidRenaming, lambda: closed.renamed(value)).value, value)

    def test_based_and_alike(self):
        dice = Random(5)
        for near in every_floor():
            for _ in range(6):
                closed, _ = some_closed(dice, near.plan)
                alike = []
                for place in range(len(closed)):
                    based = closed.based(place)
                    self.assertEqual(based, Closed(near.plan, [[swapped(table[swapped(at, place)], place) for at in range(len(closed))] for table in closed.tables]))
                    alike += [place] if based == closed else []
                self.assertEqual(closed.alike(), tuple(alike))
        self.assertEqual(Closed(L, [[1, 0, 2], [0, 2, 1]]).alike(), (0,))
        self.assertEqual(Closed(L, [[1, 0, 3, 2], [2, 3, 0, 1]]).alike(), (0, 1, 2, 3))
        self.assertEqual(Closed(L, [[1, 0, 3, 2], [3, 2, 1, 0]]).alike(), (0, 1, 2, 3))

    def test_renamed(self):
        dice = Random(6)
        for near in every_floor():
            for renaming in near.plan.renamings()[:8]:
                closed, _ = some_closed(dice, near.plan)
                other = closed.renamed(renaming=renaming)
                images = ["".join(renaming[near.plan.kinds.index(kind)] for kind in name) for name in near.names]
                places = [closed.at(near.room(name)) for name in near.names]
                its_places = [other.at(Room(near.plan, image)) for image in images]
                # Rooms lie over one place exactly if their images do, and home over the first one.
                self.assertEqual(len(set(zip(places, its_places))), len(set(places)))
                self.assertEqual(len(set(zip(places, its_places))), len(set(its_places)))
                self.assertEqual((other.at(Room(near.plan)), len(other), other.plan), (0, len(closed), near.plan))
                back = "".join(near.plan.kinds[renaming.index(kind)] for kind in near.plan.kinds)
                self.assertEqual(other.renamed(back), closed)


def swapped(place, first):
    """The place, if the first one and the place 0 are exchanged."""
    return first if place == 0 else 0 if place == first else place


class TogetherTest(unittest.TestCase):

    def test_part_of_both_and_either(self):
        dice = Random(7)
        for near in every_floor():
            rooms = [near.room(name) for name in near.names[:120]]
            for _ in range(8):
                one, other = [some_closed(dice, near.plan, 4)[0] for _ in "12"]
                if dice.random() < 0.4:
                    one = one & other
                own, strange = [one.at(room) for room in rooms], [other.at(room) for room in rooms]
                both = one & other
                self.assert_same(both, rooms, list(zip(own, strange)))
                self.assertTrue(both <= one and both <= other)
                either = one | other
                self.assertTrue(one <= either and other <= either)
                self.assert_same(either, rooms, self.chained(one, other, own, strange))
                self.assertIs(one <= other, both == one)
                self.assertIs(one <= other, either == other)
                self.assertEqual((one & one, one | one, one <= one), (one, one, True))

    def assert_same(self, closed, rooms, marks):
        """Two rooms lie over one place exactly if they have the same mark."""
        places = [closed.at(room) for room in rooms]
        self.assertEqual(len(set(zip(places, marks))), len(set(places)))
        self.assertEqual(len(set(zip(places, marks))), len(set(marks)))

    def chained(self, one, other, own, strange):
        """For each room the places of one to which steps lead."""
        both = [[one.follow(0, way), other.follow(0, way)] for way in self.some_ways(one, other)]
        groups = {place: {place} for place in range(len(one))}
        changed = True
        while changed:
            changed = False
            for its, theirs in both:
                joined = groups[its].union(*(groups[place] for place, second in both if second == theirs))
                if joined != groups[its]:
                    groups[its] = joined
                    changed = True
        return [tuple(sorted(groups[place])) for place in own]

    def some_ways(self, one, other):
        """A way to each pair of places over which a room lies."""
        ways = {(0, 0): ""}
        waiting = [(0, 0)]
        for pair in waiting:
            for kind in one.plan.kinds:
                end = (one.follow(pair[0], kind), other.follow(pair[1], kind))
                if end not in ways:
                    ways[end] = ways[pair] + kind
                    waiting.append(end)
        return list(ways.values())

    def test_other_plan(self):
        one, other = Closed(P, [[0]] * 3), Closed(D, [[0]] * 3)
        for deed in (lambda: one <= other, lambda: one & other, lambda: one | other):
            caught(OtherPlan, deed)
        for deed in (lambda: one <= 1, lambda: one & None, lambda: one | "a"):
            with self.assertRaises(TypeError):
                deed()


class WaysTest(unittest.TestCase):

    def test_ways(self):
        dice = Random(8)
        for near in every_floor():
            for _ in range(6):
                closed, _ = some_closed(dice, near.plan)
                first = {}
                for way in self.words(near.plan.kinds, len(closed)):
                    first.setdefault(closed.follow(0, way), way)
                    if len(first) == len(closed):
                        break
                names = set()
                for place, way in first.items():
                    for kind in near.plan.kinds:
                        names.add(Room(near.plan, way + kind + first[closed.follow(place, kind)][::-1]).name)
                wanted = sorted(names - {""}, key=lambda name: (len(name), name))
                self.assertEqual(closed.ways(), tuple(wanted))
                self.assertTrue(all(closed.at(Room(near.plan, way)) == 0 for way in closed.ways()))

    def words(self, kinds, longest):
        layer = [""]
        while layer and len(layer[0]) <= longest:
            yield from layer
            layer = [way + kind for way in layer for kind in kinds][:3000]

    def test_they_lead_to_all_rooms_over_the_first_place(self):
        dice = Random(9)
        for near in every_floor(3):
            closed, _ = some_closed(dice, near.plan, 3)
            found = {""}
            waiting = [""]
            for name in waiting:
                for way in closed.ways():
                    for step in (way, way[::-1]):
                        end = Room(near.plan, name + step).name
                        if len(end) <= 8 and end not in found:
                            found.add(end)
                            waiting.append(end)
            over = {name for name in near.within(4) if closed.at(near.room(name)) == 0}
            self.assertEqual({name for name in found if len(name) <= 4} & set(near.within(4)), over)


class FoldedTest(unittest.TestCase):

    def test_hulls(self):
        dice = Random(10)
        for near in every_floor():
            for _ in range(8):
                some = [dice.choice(near.within(max(1, near.far // 2))) for _ in range(dice.randrange(1, 4))]
                if any(len(near.beyond[one] | near.beyond[other]) > near.far for one in some for other in some):
                    continue
                names = near.hull(some)
                rooms = [near.room(name) for name in names + names[:2]]
                dice.shuffle(rooms)
                closed = Closed.folded(rooms)
                self.assertEqual((len(closed), closed.plan), (len(names), near.plan))
                first = min(names, key=len)
                self.check_doors(near, closed, names, first)
                if len(names) > 1:
                    missing = dice.choice(names)
                    left = [name for name in names if name != missing]
                    if near.hull(left) == names:
                        error = caught(NotHull, lambda: Closed.folded([near.room(name) for name in left]))
                        self.assertEqual(error.room, near.room(missing))

    def check_doors(self, near, closed, names, first):
        places = {}
        for name in names:
            places[name] = closed.follow(0, near.room(first).way_to(near.room(name)))
        self.assertEqual(sorted(places.values()), list(range(len(names))))
        for name in names:
            for kind in near.plan.kinds:
                other = near.room(name)[kind].name
                self.assertEqual(closed.follow(places[name], kind), places[other] if other in names else places[name])

    def test_first_missing_room(self):
        error = caught(NotHull, lambda: Closed.folded([Room(Q, "acbd"), Room(Q, "cd")]))
        self.assertEqual(error.room, Room(Q))
        error = caught(NotHull, lambda: Closed.folded([Room(Q), Room(Q, "abc"), Room(Q, "a")]))
        self.assertEqual(error.room, Room(Q, "b"))
        wide = Plan("ab") * Plan("cd") * Plan("ef")
        error = caught(NotHull, lambda: Closed.folded([Room(wide), Room(wide, "ab" * 60 + "cd" * 60 + "ef" * 60)]))
        self.assertEqual(error.room, Room(wide, "a"))
        far = Room(wide, "ab" * 60 + "cd" * 60 + "ef" * 60)
        error = caught(NotHull, lambda: Closed.folded([far, far["a"], far["c"]]))
        self.assertEqual(error.room.distance(far), 2)

    def test_errors(self):
        caught(NoRooms, lambda: Closed.folded([]))
        caught(NoRooms, lambda: Closed.folded(rooms=()))
        caught(OtherPlan, lambda: Closed.folded([Room(P), Room(P, "abc"), Room(D)]))

    def test_one_room(self):
        for room in (Room(P), Room(P, "cab")):
            self.assertEqual(Closed.folded([room]), Closed(P, [[0], [0], [0]]))
            self.assertEqual(Closed.folded([room, room]), Closed(P, [[0], [0], [0]]))

    def test_many_rooms(self):
        rooms = [Room(Q, "ac" * 100 + "ac" * at + step) for at in range(10) for step in ("", "a", "b", "ab")]
        closed = Closed.folded(rooms)
        self.assertEqual(len(closed), 40)
        self.assertEqual(len(Closed.folded([Room(TRIPLE, way) for way in ("", "a", "b", "c", "ab", "bc", "ac", "abc")])), 8)


if __name__ == "__main__":
    unittest.main()
