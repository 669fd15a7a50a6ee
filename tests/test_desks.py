"""[52], with [2] and [53] as far as they speak of desks."""

import unittest
from random import Random

from crosswalls.desks import Desk
from crosswalls.errors import Broken, InvalidLine, LineFailed, NameTaken, NotBarred, NothingToUndo, TooLong, UnknownName
from crosswalls.maps import Map
from crosswalls.paintings import Painting
from crosswalls.plans import Plan
from crosswalls.rooms import Room
from tests.examples import L, NO_STRINGS, P, Q, caught
from tests.going import Going
from tests.tables import every_floor

COLOURS = ["red", "blue", "green"]


def state_of(desk):
    """All that a desk shows of itself."""
    maps = {name: (desk[name], desk[name].barred(), [(room.name, colour) for room, colour in desk[name].patch()]) for name in desk.names()}
    return desk.names(), maps, desk.lines(), desk.undoable(), len(desk)


def desk_with(plan, *lines):
    desk = Desk(plan)
    for line in lines:
        desk.do(line)
    return desk


class Reading:
    """The colours of rooms, by reading the lines of a desk backwards."""

    def __init__(self, going, lines):
        self.going = going
        self.lines = [line.split(" ") for line in lines]

    def way(self, word):
        return self.going.name("" if word == "-" else word)

    def beyond(self, name, way, kind):
        """Whether the wall of a door lies between home and a room: its two rooms change sides."""
        start, end = way, self.going.name(way + kind)
        return (self.going.distance(name, end) < self.going.distance(name, start)) == (len(start) < len(end))

    def colour(self, held, name, at=None, single=True):
        """The colour of a room in a map behind the first lines, so many; without single rooms if these are wiped."""
        at = len(self.lines) if at is None else at
        while at:
            at -= 1
            words = self.lines[at]
            if words[0] == "copy":
                held = words[1] if words[2] == held else held
            elif words[1] != held:
                continue
            elif words[0] == "map":
                return words[2]
            elif words[0] == "paint":
                if single and self.way(words[2]) == name:
                    return words[3]
            elif words[0] == "wipe":
                single = single and self.way(words[2]) != name
            elif words[0] == "beyond":
                if self.beyond(name, self.way(words[2]), words[3]):
                    return words[4]
            elif words[0] == "ball":
                if self.going.distance(name, self.way(words[2])) <= int(words[3]):
                    return words[4]
            elif words[0] == "move":
                name = self.going.name(self.way(words[2])[::-1] + name)
        raise AssertionError(held)


class LinesTest(unittest.TestCase):

    def test_each_form(self):
        desk = Desk(P)
        for line in ("map red red", "paint red ca blue", "wipe red cab", "ball red b 1 green", "beyond red - a grey", "move red cb",
                     "bar red grey c red", "free red grey c red", "copy red b", "drop red"):
            self.assertIsNone(desk.do(line))
        self.assertEqual((desk.names(), len(desk), desk.undoable()), (["b"], 1, 10))
        self.assertEqual(desk.lines()[-1], "drop red")
        desk.lines().clear()
        self.assertEqual(len(desk.lines()), 10)

    def test_what_lines_do(self):
        desk = desk_with(L, "map m red", "ball m a 1 blue", "paint m - green", "beyond m ab a grey", "bar m grey b white")
        self.assertEqual([desk["m"][Room(L, way)] for way in ("b", "", "a", "ab", "aba", "abab")], ["red", "green", "blue", "blue", "grey", "grey"])
        self.assertEqual(desk["m"].barred(), [("grey", "b", "white")])
        desk.do("move m b")
        self.assertEqual([desk["m"][Room(L, "b" + way)] for way in ("", "a", "ab")], ["green", "blue", "blue"])
        # Beyond is told by home, whichever side of the door the room lies on.
        desk = desk_with(L, "map m red", "beyond m aba b blue", "beyond m ab b green")
        self.assertEqual([desk["m"][Room(L, way)] for way in ("a", "ab", "aba", "abab")], ["red", "green", "green", "green"])

    def test_invalid_lines(self):
        wrong = [
            "", " ", "map", "map m", "map m red ", " map m red", "map  m red", "map m red x", "map m\tred", "Map m red", "map M red", "map m Red",
            "map abcdefghijklm red", "map m abcdefghijklm", "map m1 red", "map m-red", "map m r\u00e4d", "map - red", "copy m", "copy m n o", "copy m N",
            "paint m a", "paint m  red", "paint m d red", "paint m -a red", "paint m -- red", "paint m a red blue", "paint m A red", "wipe m", "wipe m x",
            "wipe m ", "beyond m a b", "beyond m a ab red", "beyond m a - red", "beyond m a d red", "beyond m a  red", "ball m a 10 red", "ball m a x red",
            "ball m a -1 red", "ball m a  red", "ball m a \u0663 red", "ball m a \u00b2 red", "ball m a 1", "move m", "move m a b", "move m ad", "bar m red a",
            "bar m red d red", "bar m red ab red", "bar m red a Red", "bar m - a red", "free m red a", "drop", "drop m n", "drop M", "undo", "nothing m", "map m red\n",
        ]
        desk = desk_with(P, "map m red")
        before = state_of(desk)
        for value in NO_STRINGS + wrong:
            self.assertIs(caught(InvalidLine, lambda: desk.do(value)).value, value)
            self.assertEqual(state_of(desk), before)
        self.assertEqual(caught(InvalidLine, lambda: Desk(Plan("")).do("paint m a red")).value, "paint m a red")
        none = desk_with(Plan(""), "map m red", "paint m - blue", "move m -", "ball m - 0 green")
        self.assertEqual(none["m"][Room(Plan(""))], "green")

    def test_names(self):
        desk = desk_with(P, "map m red")
        before = state_of(desk)
        for line in ("copy n o", "copy n m", "paint n a red", "wipe n a", "beyond n a b red", "ball n a 3 red", "move n a", "bar n red a red",
                     "free n red a red", "drop n", "paint n " + "a" * 2001 + " red"):
            self.assertEqual(caught(UnknownName, lambda: desk.do(line)).name, "n")
        for line in ("map m red", "copy m m"):
            self.assertEqual(caught(NameTaken, lambda: desk.do(line)).name, "m")
        for value in NO_STRINGS + ["", "n", "M"]:
            self.assertIs(caught(UnknownName, lambda: desk[value]).name, value)
            self.assertIs(value in desk, False)
        self.assertIs("m" in desk, True)
        self.assertEqual(state_of(desk), before)

    def test_errors_of_the_map(self):
        desk = desk_with(P, "map m red", "bar m red a blue")
        before = state_of(desk)
        error = caught(Broken, lambda: desk.do("paint m - blue"))
        self.assertEqual((error.room, error.kind), (Room(P), "a"))
        self.assertEqual(caught(TooLong, lambda: desk.do("paint m " + "a" * 2001 + " blue")).length, 2001)
        self.assertEqual(caught(TooLong, lambda: desk.do("move m " + "ab" * 1001)).length, 2002)
        error = caught(NotBarred, lambda: desk.do("free m blue a red"))
        self.assertEqual((error.first, error.kind, error.second), ("blue", "a", "red"))
        self.assertEqual(state_of(desk), before)
        desk.do("paint m " + "a" * 1999 + " red")

    def test_maps_that_are_told(self):
        desk = desk_with(P, "map m red", "bar m red a blue", "paint m ab green")
        held = desk["m"]
        self.assertEqual((type(held), held.barred(), held.undoable()), (Map, [("red", "a", "blue")], 0))
        held[Room(P)] = "grey"
        held.free("red", "a", "blue")
        self.assertEqual((desk["m"][Room(P)], desk["m"].barred()), ("red", [("red", "a", "blue")]))
        self.assertEqual(held.base, Painting.plain(P, "red"))

    def test_names_in_order(self):
        desk = desk_with(P, "map m red", "map abc red", "map zzzzzzzzzzzz red", "map ab red", "drop m", "copy ab b")
        self.assertEqual((desk.names(), len(desk)), (["ab", "abc", "b", "zzzzzzzzzzzz"], 4))
        desk.names().clear()
        self.assertEqual(len(desk.names()), 4)

    def test_copies_are_apart(self):
        desk = desk_with(P, "map m red", "paint m a blue", "copy m n", "paint m a green", "wipe n a", "bar n red b green")
        self.assertEqual((desk["m"][Room(P, "a")], desk["n"][Room(P, "a")], desk["m"].barred()), ("green", "red", []))
        desk.do("drop m")
        desk.do("map m grey")
        self.assertEqual((desk["m"][Room(P, "a")], desk["n"][Room(P, "a")]), ("grey", "red"))


class BackwardsTest(unittest.TestCase):

    def test_against_reading_backwards(self):
        dice = Random(1)
        for near in every_floor():
            going = Going(near.plan.kinds, near.plan.pairs)
            for _ in range(3):
                desk = Desk(near.plan)
                lines = [f"map {name} {dice.choice(COLOURS)}" for name in "mn"]
                lines += [self.some_line(dice, near) for _ in range(14)]
                for line in lines:
                    desk.do(line)
                self.assertEqual(desk.lines(), lines)
                reading = Reading(going, lines)
                for held in desk.names():
                    for name in near.within(3):
                        self.assertEqual(desk[held][near.room(name)], reading.colour(held, name))
                all_at_once = Desk(near.plan)
                all_at_once.do_all(lines)
                self.assertEqual(state_of(all_at_once)[:3], state_of(desk)[:3])

    def some_line(self, dice, near):
        held, colour = dice.choice("mn"), dice.choice(COLOURS)
        way = "".join(dice.choice(near.plan.kinds) for _ in range(dice.randrange(4))) if near.plan.kinds else ""
        kind = dice.choice(near.plan.kinds) if near.plan.kinds else ""
        forms = [f"paint {held} {way or '-'} {colour}"] * 4 + [f"wipe {held} {way or '-'}"] * 3 + [f"ball {held} {way or '-'} {dice.randrange(2)} {colour}"]
        if kind:
            forms += [f"beyond {held} {way or '-'} {kind} {colour}", f"move {held} {way or '-'}", f"move {held} {kind}"]
        return dice.choice(forms)

    def test_against_a_map(self):
        desk = desk_with(Q, "map m red", "ball m ac 2 blue", "paint m acb green", "move m bd", "paint m - grey")
        held = Map(Painting.plain(Q, "red"))
        held.fill(Painting.ball(Room(Q, "ac"), 2), "blue")
        held[Room(Q, "acb")] = "green"
        self.assertNotEqual(desk["m"], held)
        self.assertEqual(desk["m"].count("green"), 1)
        self.assertEqual(desk["m"].base.count("blue"), 13)


class DeedsTest(unittest.TestCase):

    def test_undo(self):
        desk = Desk(P)
        caught(NothingToUndo, lambda: desk.undo())
        states = [state_of(desk)]
        for lines in ("map m red", ["paint m a blue", "copy m n"], [], "drop m", ["map m blue"], "bar n red c grey", ("move n ab", "wipe n ab")):
            self.assertIsNone(desk.do(lines) if isinstance(lines, str) else desk.do_all(lines))
            states.append(state_of(desk))
            self.assertEqual(desk.undoable(), len(states) - 1)
        for wanted in states[-2::-1]:
            self.assertIsNone(desk.undo())
            self.assertEqual(state_of(desk), wanted)
        caught(NothingToUndo, lambda: desk.undo())

    def test_many_deeds(self):
        desk = desk_with(Q, "map m red")
        for at in range(199):
            desk.do(f"paint m {'abcd'[at % 4] + 'acbd'[:at % 5]} {COLOURS[at % 3]}")
        self.assertEqual((desk.undoable(), len(desk.lines())), (200, 200))
        for _ in range(200):
            desk.undo()
        self.assertEqual(state_of(desk), state_of(Desk(Q)))

    def test_do_all_fails(self):
        desk = desk_with(P, "map m red", "bar m red a blue")
        before = state_of(desk)
        for lines, index, cause in (
            (["map n red", "paint n a blue", "map n red"], 2, NameTaken), (["drop m", "wipe m a"], 1, UnknownName), ([None], 0, InvalidLine),
            (("paint m c green", "paint m a blue"), 1, Broken), (["map n red", "map o red", "drop n", "nothing", 5], 3, InvalidLine),
            (["paint m " + "a" * 2001 + " red"], 0, TooLong), (["map n red", {"a": 1}], 1, InvalidLine),
        ):
            error = caught(LineFailed, lambda: desk.do_all(lines=lines))
            self.assertEqual((error.index, type(error.__cause__)), (index, cause))
            self.assertEqual(state_of(desk), before)

    def test_do_all_copies_its_lines(self):
        desk = Desk(P)
        lines = ["map m red", "map n red"]
        desk.do_all(lines)
        lines.clear()
        self.assertEqual((desk.lines(), desk.undoable()), (["map m red", "map n red"], 1))

    def test_trial(self):
        desk = desk_with(P, "map m red", "paint m a blue")
        before = state_of(desk)

        def action(same):
            same.undo()
            same.do("map n red")
            same.do_all(["move n a", "drop m"])
            return same is desk, same.names(), same.undoable(), same.lines()
        self.assertEqual(desk.trial(action), (True, ["n"], 3, ["map m red", "map n red", "move n a", "drop m"]))
        self.assertEqual(state_of(desk), before)
        with self.assertRaises(ZeroDivisionError):
            desk.trial(action=lambda same: (action(same), 1 // 0))
        self.assertEqual(state_of(desk), before)
        caught(UnknownName, lambda: desk.trial(lambda same: same.do("drop x")))
        self.assertEqual(desk.trial(lambda same: same.trial(action)[1] + same.names()), ["n", "m"])
        self.assertEqual(state_of(desk), before)


if __name__ == "__main__":
    unittest.main()
