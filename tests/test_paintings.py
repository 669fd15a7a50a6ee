"""[15], [16], [42] to [44], with [2] and [53] as far as they speak of paintings."""

import unittest
from random import Random

from crosswalls.closed import Closed
from crosswalls.errors import BadTables, InvalidColour, InvalidTable, NoRegion, NotExchanged, OtherPlan
from crosswalls.lots import Half, Lot
from crosswalls.paintings import Painting
from crosswalls.plans import Plan
from crosswalls.rooms import Room
from crosswalls.walls import Wall
from tests.examples import D, L, NO_STRINGS, P, Q, caught
from tests.lists import some_lots
from tests.painted import first_of, some_painting, some_region, some_states
from tests.tables import all_tables, every_floor, state_after

NO_COLOURS = ["", "A", "red ", "re d", "r\u00e4d", "abcdefghijklm", "a1", "\n", "-"]
NO_COLOUR_VALUES = NO_COLOURS + NO_STRINGS
CHESS = Painting(L, [[1, 0], [1, 0]], ["black", "white"])


class ExamplesTest(unittest.TestCase):

    def test_chess(self):
        self.assertEqual(CHESS.form, (
            ("black", "", (1, 2)), ("white", "a", (None, 3)), ("white", "b", (4, None)), ("black", "b", (1, None)), ("black", "a", (None, 2)),
        ))
        told = (CHESS.closed()[0].tables, CHESS.share("white"), CHESS.at_distance("white", 7), CHESS.breaks([("white", "a", "black")]))
        self.assertEqual(told, (((1, 0), (1, 0)), (1, 2), 2, (Room(L), "a")))

    def test_half(self):
        far = Painting.of_half(Half(Wall(Room(L, "a"), "b"), far=True))
        told = (far[Room(L, "aba")], far.count("no"), far.closed(), far.distance("yes", Room(L, "b")))
        self.assertEqual(told, ("yes", None, None, 3))

    def test_ball_and_step(self):
        self.assertEqual(Painting.ball(Room(L, "a"), 1).count("yes"), 3)
        self.assertEqual(CHESS.step(lambda own, around: around[0]), CHESS.seen_from(Room(L, "a")))


def form_by_hand(plan, tables, colours):
    """The form, by telling apart all ways of more and more letters."""
    def behind(node, kind):
        state, near = node
        return (state_after(plan, tables, kind, state), "".join(sorted([kind] + [other for other in near if plan.crosses(kind, other)])))
    nodes = [(0, "")]
    for node in nodes:
        nodes += [end for end in dict.fromkeys(behind(node, kind) for kind in plan.kinds if kind not in node[1]) if end not in nodes]
    marks = {node: (colours[node[0]], node[1]) for node in nodes}
    for _ in range(len(nodes)):
        deeper = {node: (marks[node],) + tuple(marks[behind(node, kind)] for kind in plan.kinds if kind not in node[1]) for node in nodes}
        names = {}
        marks = {node: names.setdefault(deeper[node], len(names)) for node in nodes}
    order = [(0, "")]
    for node in order:
        for kind in plan.kinds:
            if kind not in node[1] and marks[behind(node, kind)] not in [marks[other] for other in order]:
                order.append(behind(node, kind))
    places = {marks[node]: at for at, node in enumerate(order)}
    return tuple(
        (colours[state], near, tuple(None if kind in near else places[marks[behind((state, near), kind)]] for kind in plan.kinds))
        for state, near in order
    )


class MakingTest(unittest.TestCase):

    def test_forms(self):
        dice = Random(1)
        for near in every_floor():
            for _ in range(10):
                tables, colours = some_states(dice, near.plan)
                painting = Painting(near.plan, tables, colours)
                self.assertEqual(painting.form, form_by_hand(near.plan, tables, colours))
                self.assertEqual((painting.plan, len(painting)), (near.plan, len(painting.form)))
                self.assertEqual(Painting(colours=tuple(colours), tables=tuple(map(tuple, tables)), plan=near.plan), painting)

    def test_colours(self):
        dice = Random(2)
        for near in every_floor():
            for _ in range(5):
                painting, told = some_painting(dice, near)
                self.assertEqual({name: painting[near.room(name)] for name in near.names}, told)

    def test_kinds_of_values(self):
        for painting in (CHESS, CHESS.where("black"), Painting.spot(Room(P, "ab"))):
            self.assertIs(type(painting.form), tuple)
            for colour, kinds, ends in painting.form:
                self.assertEqual((type(colour), type(kinds), type(ends)), (str, str, tuple))

    def test_copies(self):
        tables, colours = [[1, 0], [1, 0]], ["black", "white"]
        painting = Painting(L, tables, colours)
        tables[0][0] = 0
        colours[0] = "grey"
        self.assertEqual(painting, CHESS)

    def test_bad_tables(self):
        for value in NO_STRINGS + ["", "red"]:
            if value not in (("a",), ["a"], ["a", "b"], [[[[["a"]]]]]):
                self.assertIs(caught(BadTables, lambda: Painting(L, "x", value)).value, value)
        wrong = [[[0, 1]], [[0, 0], [0]], [[0], [0]], [[0, 0], [0, 0], [0, 0]], [[0, 0], [0, True]], [[0, 0], "ab"], [[0, 0], [0, None]], "ab", {}, [[], []]]
        for value in wrong + NO_STRINGS:
            self.assertIs(caught(BadTables, lambda: Painting(L, value, ["a", 5])).value, value)
        for value in ([[0]], [[]], ((),)):
            self.assertIs(caught(BadTables, lambda: Painting(Plan(""), value, ["red"])).value, value)
        self.assertEqual(Painting(Plan(""), [], ["red", "blue"]).form, (("red", "", ()),))

    def test_other_errors(self):
        for tables, told in (([[0, 2], [0, -1]], ("a", 1)), ([[0, 1], [-1, 2]], ("b", 0)), ([[0, 1], [0, 10 ** 30]], ("b", 1))):
            error = caught(InvalidTable, lambda: Painting(L, tables, ["red", "BLUE"]))
            self.assertEqual((error.kind, error.place), told)
        plan = Plan("abc", ["ac", "bc"])
        error = caught(NotExchanged, lambda: Painting(plan, [[0, 1, 2], [0, 1, 1], [0, 2, 1]], [5, "red", "blue"]))
        self.assertEqual((error.place, error.first, error.second), (1, "b", "c"))
        for value in NO_COLOUR_VALUES:
            for colours in (["red", value, 7], (value, "X", "y")):
                self.assertIs(caught(InvalidColour, lambda: Painting(L, [[0, 0, 0], [0, 0, 0]], colours)).value, value)
        for colour in ("abcdefghijkl", "mnopqrstuvwx", "yz", "a", "z"):
            self.assertEqual(Painting(L, [[0], [0]], [colour]).form[0][0], colour)

    def test_not_exchanged_against_all_states(self):
        dice = Random(3)
        for near in every_floor():
            for _ in range(10):
                tables = [dice.choice(all_tables(2) if dice.random() < 0.7 else all_tables(2)[1:3]) for _ in near.plan.kinds]
                wrong = [(place, pair) for place in range(2) for pair in near.plan.pairs
                         if len({state_after(near.plan, tables, way, place) for way in (pair, pair[::-1])}) == 2]
                if wrong:
                    error = caught(NotExchanged, lambda: Painting(near.plan, tables, ["a", "b"]))
                    self.assertEqual((error.place, error.first + error.second), min(wrong))
                else:
                    Painting(near.plan, tables, ["a", "b"])

    def test_equal_and_first_apart(self):
        dice = Random(4)
        for near in every_floor():
            some = [some_painting(dice, near) for _ in range(6)]
            some.append((some[0][0].filled(Painting.spot(near.room(near.names[-1])), "grey"), {**some[0][1], near.names[-1]: "grey"}))
            for one, told in some:
                for other, its_told in some:
                    apart = first_of(name for name in near.names if told[name] != its_told[name])
                    room = one.first_apart(other)
                    if apart is None:
                        self.assertTrue(room is None or len(room) > near.far)
                    else:
                        self.assertEqual(room, near.room(apart))
                    self.assertIs(one == other, room is None)
                    self.assertIs(one == other, one.form == other.form)
        for value in NO_STRINGS + [CHESS.form, Painting(Plan("ac"), [[1, 0], [1, 0]], ["black", "white"])]:
            self.assertIs(CHESS == value, False)

    def test_other_plan(self):
        caught(OtherPlan, lambda: CHESS[Room(P)])
        caught(OtherPlan, lambda: CHESS.first_apart(Painting.plain(P, "black")))


class StaticTest(unittest.TestCase):

    def test_of_closed(self):
        closed = Closed(L, [[1, 0, 2], [0, 2, 1]])
        painting = Painting.of_closed(closed, ["a", "b", "c"])
        self.assertEqual("".join(painting[Room(L, ("ab" * 4)[:many])] for many in range(7)), "abccbaa")
        for value in NO_STRINGS + ["", "abc", ["a", "b"], ["a", "b", "c", "d"]]:
            self.assertIs(caught(BadTables, lambda: Painting.of_closed(closed, value)).value, value)
        for value in NO_COLOUR_VALUES:
            self.assertIs(caught(InvalidColour, lambda: Painting.of_closed(colours=["red", value, 5], closed=closed)).value, value)

    def test_plain(self):
        for near in every_floor():
            painting = Painting.plain(near.plan, "red")
            self.assertEqual({painting[near.room(name)] for name in near.names}, {"red"})
            self.assertEqual({row[1] for row in painting.form}, {near.room(name).nearer() for name in near.names if len(name) <= 4})
        for value in NO_COLOUR_VALUES:
            self.assertIs(caught(InvalidColour, lambda: Painting.plain(colour=value, plan=P)).value, value)

    def test_spots_and_balls(self):
        dice = Random(5)
        for near in every_floor():
            for centre in dice.sample(near.names, min(6, len(near.names))):
                spot = Painting.spot(near.room(centre))
                self.assertEqual([name for name in near.names if spot[near.room(name)] == "yes"], [centre])
                self.assertEqual(spot, Painting.ball(near.room(centre), 0))
                for distance in (1, 2, 3):
                    ball = Painting.ball(distance=distance, room=near.room(centre))
                    self.assertEqual({name for name in near.names if ball[near.room(name)] == "yes"},
                                     {name for name in near.names if near.distance(centre, name) <= distance})
        self.assertEqual(Painting.ball(Room(Q), 6).count("yes"), 1 + 4 * 21)
        self.assertEqual(Painting.ball(Room(Q, "acacbdbd"), 6).count("yes"), 85)

    def test_halves_and_lots(self):
        dice = Random(6)
        for near in every_floor():
            for lot, halves, names in some_lots(dice, near, 2, 4, 8):
                region = Painting.of_lot(lot)
                self.assertEqual([name for name in near.names if region[near.room(name)] == "yes"], names)
                for half in halves:
                    its = Painting.of_half(near.half(*half))
                    self.assertEqual([name for name in near.names if its[near.room(name)] == "yes"], near.having([half]))
        wall = Wall(Room(P), "a")
        self.assertEqual(Painting.of_lot(Lot(P, [Half(wall), ~Half(wall)])), Painting.plain(P, "no"))
        self.assertEqual(Painting.of_lot(Lot(P)), Painting.plain(P, "yes"))
        around = Lot.around([Room(Q, "acb"), Room(Q, "bdc")])
        self.assertEqual([room.name for room in Painting.of_lot(around).rooms("yes", 99)], [room.name for room in around.rooms()])

    def test_widest_regions(self):
        wide = Plan("ab") * Plan("cd") * Plan("ef")
        ball = Painting.ball(Room(wide, "abcdefab"), 6)
        self.assertEqual(ball.count("yes"), Painting.ball(Room(wide), 6).count("yes"))
        free = Plan("abcdef")
        self.assertEqual(Painting.ball(Room(free, "abcdefab"), 6).count("yes"), 1 + sum(6 * 5 ** at for at in range(6)))
        halves = [Half(Wall(Room(wide, way), kind)) for way, kind in (("abab", "a"), ("baba", "b"), ("cdc", "d"), ("dcd", "c"), ("e", "f"), ("f", "e"))]
        self.assertEqual(Painting.of_lot(Lot(wide, halves)).count("yes"), len(Lot(wide, halves).rooms()))


class RegionsTest(unittest.TestCase):

    def test_operators(self):
        dice = Random(7)
        for near in every_floor():
            some = [some_region(dice, near) for _ in range(5)]
            for one, told in some:
                self.check(near, ~one, lambda name: told[name] == "no")
                for other, its in some:
                    self.check(near, one & other, lambda name: told[name] == its[name] == "yes")
                    self.check(near, one | other, lambda name: "yes" in (told[name], its[name]))
                    self.check(near, one - other, lambda name: (told[name], its[name]) == ("yes", "no"))
                    self.check(near, one ^ other, lambda name: told[name] != its[name])
                    self.assertIs(one <= other, (one - other).count("yes") == 0)
                    self.assertTrue((one & other) <= one <= (one | other))

    def check(self, near, region, wanted):
        self.assertEqual([name for name in near.names if region[near.room(name)] == "yes"], [name for name in near.names if wanted(name)])
        self.assertLessEqual({row[0] for row in region.form}, {"yes", "no"})
        for name in near.names[::9]:
            self.assertIs(near.room(name) in region, wanted(name))

    def test_in_with_any_value(self):
        region = Painting.spot(Room(P))
        for value in NO_STRINGS + ["", region, Room(D)]:
            if value != Room(P, "a"):
                self.assertIs(value in region, False)
                self.assertIs(value in ~region, False)
                self.assertEqual(caught(NoRegion, lambda: value in CHESS).colour, "black")
        self.assertIs(Room(Plan("cab", ["cb", "ba"])) in region, True)

    def test_no_regions(self):
        painting = Painting(L, [[1, 2, 0], [1, 2, 0]], ["yes", "maybe", "red"])
        spot = Painting.spot(Room(L))
        self.assertEqual(caught(NoRegion, lambda: ~painting).colour, "maybe")
        for deed in (lambda one, other: one & other, lambda one, other: one | other, lambda one, other: one - other,
                     lambda one, other: one ^ other, lambda one, other: one <= other):
            self.assertEqual(caught(NoRegion, lambda: deed(painting, CHESS)).colour, "maybe")
            self.assertEqual(caught(NoRegion, lambda: deed(spot, CHESS)).colour, "black")
            self.assertEqual(caught(NoRegion, lambda: deed(CHESS, spot)).colour, "black")
            caught(OtherPlan, lambda: deed(CHESS, Painting.plain(P, "red")))
            caught(OtherPlan, lambda: deed(CHESS, Painting.spot(Room(P))))
            for value in NO_STRINGS:
                with self.assertRaises(TypeError):
                    deed(spot, value)


class ChangedTest(unittest.TestCase):

    def test_where_filled_and_exchanged(self):
        dice = Random(8)
        for near in every_floor():
            for _ in range(5):
                painting, told = some_painting(dice, near)
                region, inside = some_region(dice, near)
                colour = dice.choice(["red", "blue", "grey", "none"])
                self.check(near, painting.where(colour), {name: "yes" if told[name] == colour else "no" for name in told})
                self.check(near, painting.filled(colour=colour, region=region), {name: colour if inside[name] == "yes" else told[name] for name in told})
                table = {"red": "blue", "blue": "red", "green": "blue"}
                self.check(near, painting.exchanged(table), {name: table.get(told[name], told[name]) for name in told})
                self.assertEqual(table, {"red": "blue", "blue": "red", "green": "blue"})
                self.assertEqual(painting.exchanged({}), painting)

    def check(self, near, painting, told):
        self.assertEqual({name: painting[near.room(name)] for name in near.names}, told)

    def test_joined(self):
        dice = Random(9)
        for near in every_floor():
            for _ in range(5):
                (one, told), (other, its) = some_painting(dice, near), some_painting(dice, near)
                rule = lambda own, strange: own if own < strange else strange + "x"
                self.check(near, one.joined(other, rule), {name: rule(told[name], its[name]) for name in told})
                self.check(near, one.joined(rule=lambda own, strange: strange, other=other), its)
                self.assertEqual(one.joined(other, lambda own, strange: own), one)

    def test_wrong_rules(self):
        for value in NO_COLOUR_VALUES:
            self.assertIs(caught(InvalidColour, lambda: CHESS.joined(CHESS, lambda own, strange: value)).value, value)

        def failing(own, strange):
            raise KeyError("mine")
        with self.assertRaises(KeyError):
            CHESS.joined(CHESS, failing)

    def test_errors(self):
        spot, strange = Painting.spot(Room(L)), Painting.spot(Room(P))
        for value in NO_COLOUR_VALUES:
            self.assertIs(caught(InvalidColour, lambda: CHESS.where(value)).value, value)
            self.assertIs(caught(InvalidColour, lambda: CHESS.filled(spot, value)).value, value)
        caught(OtherPlan, lambda: CHESS.filled(strange, 5))
        caught(OtherPlan, lambda: CHESS.filled(Painting.plain(P, "red"), 5))
        self.assertEqual(caught(NoRegion, lambda: CHESS.filled(CHESS, 5)).colour, "black")
        caught(OtherPlan, lambda: CHESS.joined(strange, None))


if __name__ == "__main__":
    unittest.main()
