"""[17], [45], [48], with [2] and [53] as far as they speak of led, seen and stepped paintings."""

import unittest
from random import Random

from crosswalls.closed import Closed
from crosswalls.errors import InvalidColour, InvalidKind, NotClosed, OtherPlan
from crosswalls.lots import Half, Lot
from crosswalls.motions import Motion
from crosswalls.paintings import Painting
from crosswalls.plans import Plan
from crosswalls.rooms import Room
from crosswalls.walls import Wall
from tests.examples import D, L, NO_KINDS, NO_STRINGS, P, Q, caught
from tests.going import Going
from tests.painted import found_colours, some_mirrors, some_painting
from tests.tables import every_floor
from tests.test_paintings import CHESS, NO_COLOUR_VALUES


def going_of(near):
    return Going(near.plan.kinds, near.plan.pairs)


class LedTest(unittest.TestCase):

    def test_motions(self):
        dice = Random(1)
        for near in every_floor():
            going = going_of(near)
            for m in going.some_motions(dice, 4, 6):
                painting, told = some_painting(dice, near)
                motion = going.motion(m)
                image = motion(painting)
                self.assertEqual((type(image), image.plan), (Painting, near.plan))
                back = going.back(m)
                for name in near.names:
                    source = going.led(back, name)
                    if source in told:
                        self.assertEqual(image[near.room(name)], told[source])
                self.assertEqual((~motion)(image), painting)
                self.assertEqual(Motion(near.plan)(painting), painting)
                for name in near.within(2):
                    self.assertEqual(image[motion(near.room(name))], told[name])

    def test_regions_of_led_things(self):
        dice = Random(2)
        for near in every_floor():
            going = going_of(near)
            for m in going.some_motions(dice, 4, 4) if near.plan.kinds else []:
                motion = going.motion(m)
                room = near.room(dice.choice(near.within(2)))
                half = Half(Wall(room, dice.choice(near.plan.kinds)), dice.random() < 0.5)
                lot = Lot(near.plan, [half, Half(Wall(room, near.plan.kinds[0]))])
                self.assertEqual(motion(Painting.spot(room)), Painting.spot(motion(room)))
                self.assertEqual(motion(Painting.ball(room, 2)), Painting.ball(motion(room), 2))
                self.assertEqual(motion(Painting.of_half(half)), Painting.of_half(motion(half)))
                self.assertEqual(motion(Painting.of_lot(lot)), Painting.of_lot(motion(lot)))

    def test_products(self):
        painting = Painting.of_half(Half(Wall(Room(Q, "ac"), "b"))).joined(Painting.ball(Room(Q, "d"), 2), lambda own, other: own + other)
        for one, other in ((Motion(Q, "acbdacbdac", "bcda"), Motion(Q, "bdbd", "adcb")), (Motion(Q, "cacacacaca"), Motion(Q, "bd", "dcba"))):
            self.assertEqual((one * other)(painting), one(other(painting)))

    def test_other_plan(self):
        caught(OtherPlan, lambda: Motion(P)(CHESS))


class SeenTest(unittest.TestCase):

    def test_views(self):
        dice = Random(3)
        for near in every_floor():
            going = going_of(near)
            for _ in range(4):
                painting, told = some_painting(dice, near)
                start = dice.choice(near.within(near.far // 2))
                view = painting.seen_from(room=near.room(start))
                for name in near.names:
                    end = going.name(start + name)
                    if end in told:
                        self.assertEqual(view[near.room(name)], told[end])
                self.assertEqual(view, (~Motion(near.plan, start))(painting))
        caught(OtherPlan, lambda: CHESS.seen_from(Room(P)))

    def test_far_views(self):
        half = Half(Wall(Room(Q, "acac"), "a"), True)
        for way in ("acacacac", "bdbdbdbd", "acbdacbd"):
            view = Painting.of_half(half).seen_from(Room(Q, way))
            self.assertEqual(view, Painting.of_half((~Motion(Q, way))(half)))


class StepTest(unittest.TestCase):

    def test_through(self):
        dice = Random(4)
        for near in every_floor():
            for kind in near.plan.kinds:
                painting, told = some_painting(dice, near)
                found = painting.through(kind=kind)
                for name in near.within(near.far - 1):
                    self.assertEqual(found[near.room(name)], told[near.behind[name][kind]])
                self.assertEqual(found.through(kind), painting)
        for value in NO_STRINGS + NO_KINDS:
            self.assertIs(caught(InvalidKind, lambda: CHESS.through(value)).value, value)

    def test_steps(self):
        dice = Random(5)
        for near in every_floor():
            for _ in range(5):
                painting, told = some_painting(dice, near)
                salt = dice.randrange(1000)
                rule = lambda own, around: ["red", "blue", "grey"][(sum(map(ord, own + "".join(around))) + salt) % 3]
                found = painting.step(rule=rule)
                wanted = {name: rule(told[name], tuple(told[near.behind[name][kind]] for kind in near.plan.kinds)) for name in near.within(near.far - 1)}
                self.assertEqual({name: found[near.room(name)] for name in wanted}, wanted)
                seen = []
                painting.step(lambda own, around: seen.append((own, around)) or own)
                for own, around in seen:
                    self.assertEqual((type(own), type(around), len(around)), (str, tuple, len(near.plan.kinds)))
                again = found.step(rule)
                for name in near.within(near.far - 2):
                    self.assertEqual(again[near.room(name)], rule(wanted[name], tuple(wanted[near.behind[name][kind]] for kind in near.plan.kinds)))

    def test_many_steps(self):
        dice = Random(6)
        for plan in (Q, D, P):
            tables, colours = some_mirrors(dice, plan)
            closed = Closed(plan, tables)
            rule = lambda own, around: "red" if (own + "".join(around)).count("red") % 2 else "blue"
            painting = Painting.of_closed(closed, found_colours(plan, tables, colours))
            told = list(found_colours(plan, tables, colours))
            for _ in range(200):
                painting = painting.step(rule)
                told = [rule(told[place], tuple(told[table[place]] for table in closed.tables)) for place in range(len(closed))]
            self.assertEqual(painting, Painting.of_closed(closed, told))

    def test_wrong_rules(self):
        for value in NO_COLOUR_VALUES:
            self.assertIs(caught(InvalidColour, lambda: CHESS.step(lambda own, around: value)).value, value)
        with self.assertRaises(ZeroDivisionError):
            CHESS.step(lambda own, around: 1 // 0)
        self.assertEqual(CHESS[Room(L)], "black")


class ClosedTest(unittest.TestCase):

    def test_least_closed_floor(self):
        dice = Random(7)
        found = 0
        for near in every_floor():
            for _ in range(6):
                painting, told = some_painting(dice, near)
                both = painting.closed() if len(painting) <= 20 else None
                if both is None:
                    continue
                found += 1
                closed, colours = both
                self.assertEqual((type(colours), len(colours)), (tuple, len(closed)))
                self.assertEqual({name: colours[closed.at(near.room(name))] for name in near.names}, told)
                self.assertEqual(Painting.of_closed(closed, colours), painting)
                views = [Painting.of_closed(closed.based(place), self.turned(closed, colours, place)) for place in range(len(closed))]
                for at, view in enumerate(views):
                    self.assertNotIn(view, views[:at])
        self.assertGreater(found, 50)

    def turned(self, closed, colours, place):
        """The colours of the places of closed.based(place)."""
        order = [place]
        for start in order:
            order += [end for end in dict.fromkeys(table[start] for table in closed.tables) if end not in order]
        return [colours[place] for place in order]

    def test_paintings_of_closed_floors_lie_on_them(self):
        dice = Random(8)
        for near in every_floor():
            for _ in range(5):
                tables, colours = some_mirrors(dice, near.plan)
                closed, colours = Closed(near.plan, tables), found_colours(near.plan, tables, colours)
                painting = Painting.of_closed(closed, colours)
                least, its_colours = painting.closed()
                self.assertTrue(closed <= least)
                self.assertLessEqual(len(least), len(painting) * 2 ** len(near.plan.kinds))
                for colour in set(colours):
                    part, whole = painting.share(colour)
                    self.assertEqual((part, whole), (its_colours.count(colour), len(least)))
                    self.assertEqual(part * len(closed), colours.count(colour) * whole)
                self.assertEqual(painting.share("none"), (0, len(least)))
                self.assertEqual(painting.share(colour="red")[1], len(least))
                moved = painting.seen_from(near.room(dice.choice(near.names)))
                self.assertEqual(len(moved.closed()[0]), len(least))

    def test_others(self):
        for plan in (L, P, Q, D, Plan("abc")):
            for region in (Painting.spot(Room(plan)), Painting.of_half(Half(Wall(Room(plan), "a"))), Painting.ball(Room(plan, "a"), 1)):
                if len(region) * 2 ** sum(all(plan.crosses(kind, other) for other in plan.kinds if other != kind) for kind in plan.kinds) <= 40:
                    self.assertIsNone(region.closed())
                    caught(NotClosed, lambda: region.share("yes"))
                    caught(NotClosed, lambda: region.share("none"))
        # A floor of finitely many rooms is closed itself.
        plan = Plan("ab", ["ab"])
        closed, colours = Painting.spot(Room(plan, "ab")).closed()
        self.assertEqual((closed.tables, colours), (((1, 0, 3, 2), (2, 3, 0, 1)), ("no", "no", "no", "yes")))
        self.assertEqual(Painting.plain(Plan(""), "red").closed(), (Closed(Plan(""), []), ("red",)))
        for value in NO_COLOUR_VALUES:
            self.assertIs(caught(InvalidColour, lambda: Painting.spot(Room(L)).share(value)).value, value)

    def test_more_places_than_rows(self):
        # A pattern along the rooms that neither c nor d parts from home; beyond them all is red.
        plan = Plan("ab") * Plan("cd", ["cd"])
        places = [(at, bits) for at in range(8) for bits in range(4)]
        behind = {"a": lambda at, bits: (at ^ 1, bits), "b": lambda at, bits: ((at + 1 ^ 1) - 1 & 7, bits),
                  "c": lambda at, bits: (at, bits ^ 1), "d": lambda at, bits: (at, bits ^ 2)}
        tables = [[places.index(behind[kind](*place)) for place in places] for kind in "abcd"]
        painting = Painting.of_closed(Closed(plan, tables), found_colours(plan, tables, ["abcdefgh"[at] if bits == 0 else "red" for at, bits in places]))
        self.assertLess(len(painting), 32)
        self.assertEqual(len(painting.closed()[0]), 32)
        self.assertEqual(painting.share("red"), (24, 32))

    def test_a_half_that_is_closed_along_a_line(self):
        # In D the wall of c has a room on its other side behind each room: two places.
        closed, colours = Painting.of_half(Half(Wall(Room(D), "c"))).closed()
        self.assertEqual((closed.tables, colours), (((0, 1), (0, 1), (1, 0)), ("yes", "no")))


if __name__ == "__main__":
    unittest.main()
