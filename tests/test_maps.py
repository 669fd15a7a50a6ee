"""[49] to [51], with [2] and [53] as far as they speak of maps."""

import unittest
from random import Random

from crosswalls.errors import Broken, InvalidColour, InvalidKind, NoRegion, NotBarred, NothingToUndo, OtherPlan
from crosswalls.maps import Map
from crosswalls.motions import Motion
from crosswalls.paintings import Painting
from crosswalls.rooms import Room
from tests.examples import L, NO_KINDS, NO_STRINGS, P, Q, caught
from tests.going import Going
from tests.painted import COLOURS, first_of, some_painting, some_region
from tests.tables import every_floor
from tests.test_paintings import CHESS, NO_COLOUR_VALUES


def patch_of(held):
    return [(room.name, colour) for room, colour in held.patch()]


def state_of(held):
    """All that a map shows of itself."""
    return held.base, patch_of(held), held.barred(), held.undoable(), len(held)


class Model:
    """The colours of the rooms near home, and those that the base gives them."""

    def __init__(self, near, told):
        self.near = near
        self.base = dict(told)
        self.single = {}

    def colours(self):
        return {name: self.single.get(name, self.base[name]) for name in self.base}

    def tidy(self):
        self.single = {name: colour for name, colour in self.single.items() if self.base.get(name) != colour}

    def set(self, name, colour):
        self.single[name] = colour
        self.tidy()

    def wipe(self, name):
        self.single.pop(name, None)

    def fill(self, inside, colour):
        self.base = {name: colour if inside[name] == "yes" else self.base[name] for name in self.base}
        self.single = {name: self.single[name] for name in self.single if inside[name] != "yes"}

    def step(self, rule):
        """Rooms at the rim are forgotten."""
        plan = self.near.plan
        for told in ("base", "colours"):
            colours = self.base if told == "base" else self.colours()
            found = {name: rule(colours[name], tuple(colours[self.near.behind[name][kind]] for kind in plan.kinds))
                     for name in colours if all(self.near.behind[name].get(kind) in colours for kind in plan.kinds)}
            if told == "base":
                base = found
        self.single, self.base = found, base
        self.tidy()


def rule_of(salt):
    return lambda own, around: ["red", "blue", "grey"][(sum(map(ord, own + "".join(around))) + salt) % 3]


class DeedsTest(unittest.TestCase):

    def test_against_all_rooms_near_home(self):
        dice = Random(1)
        for near in every_floor():
            for _ in range(6):
                painting, told = some_painting(dice, near)
                held, model = Map(painting), Model(near, told)
                steps = 0
                for _ in range(12):
                    steps += self.some_deed(dice, near, held, model, steps)
                    self.check(near, held, model)

    def some_deed(self, dice, near, held, model, steps):
        pick = dice.randrange(8)
        name = dice.choice(near.within(2))
        if pick < 3:
            colour = dice.choice(COLOURS + [model.base[name]])
            held[near.room(name)] = colour
            model.set(name, colour)
        elif pick < 5:
            held.wipe(near.room(name))
            model.wipe(name)
        elif pick < 7 or steps == 2 or len(held.base) > 40:
            region, inside = some_region(dice, near)
            held.fill(region, "grey")
            model.fill(inside, "grey")
        else:
            salt = dice.randrange(99)
            held.step(rule_of(salt))
            model.step(rule_of(salt))
            return 1
        return 0

    def check(self, near, held, model):
        colours = model.colours()
        self.assertEqual({name: held[near.room(name)] for name in colours}, colours)
        self.assertEqual({name: held.base[near.room(name)] for name in model.base}, model.base)
        wanted = sorted(model.single.items(), key=lambda pair: (len(pair[0]), pair[0]))
        if len(model.base) == len(near.names):
            self.assertEqual((patch_of(held), len(held)), (wanted, len(wanted)))
        else:
            self.assertEqual([pair for pair in patch_of(held) if pair[0] in model.base], [pair for pair in wanted if pair[0] in model.base])

    def test_moves(self):
        dice = Random(2)
        for near in every_floor():
            going = Going(near.plan.kinds, near.plan.pairs)
            for m in going.some_motions(dice, 4, 6):
                painting, _ = some_painting(dice, near)
                held = Map(painting)
                for _ in range(4):
                    held[near.room(dice.choice(near.within(3)))] = dice.choice(COLOURS)
                before = patch_of(held)
                colours = {name: held[near.room(name)] for name in near.within(3)}
                motion = going.motion(m)
                held.move(motion)
                self.assertEqual(held.base, motion(painting))
                wanted = sorted([(going.led(m, name), colour) for name, colour in before], key=lambda pair: (len(pair[0]), pair[0]))
                self.assertEqual(patch_of(held), wanted)
                for name, colour in colours.items():
                    self.assertEqual(held[motion(near.room(name))], colour)

    def test_count(self):
        dice = Random(3)
        for near in every_floor():
            painting, told = some_painting(dice, near)
            held = Map(painting)
            for _ in range(5):
                name, colour = dice.choice(near.within(3)), dice.choice(COLOURS)
                held[near.room(name)] = colour
                told[name] = colour
                for colour in COLOURS + ["grey", "none"]:
                    many = painting.count(colour)
                    if many is None:
                        self.assertIsNone(held.count(colour))
                    elif many == len([name for name in near.names if painting[near.room(name)] == colour]):
                        self.assertEqual(held.count(colour=colour), list(told.values()).count(colour))

    def test_patch(self):
        held = Map(Painting.plain(P, "red"))
        self.assertEqual((held.plan, held.base, held.patch(), len(held)), (P, Painting.plain(P, "red"), [], 0))
        for way in ("ca", "cab", "b", ""):
            held[Room(P, way)] = "blue"
        self.assertEqual(held.patch(), [(Room(P, way), "blue") for way in ("", "b", "ca", "bca")])
        held[Room(P, "b")] = "red"
        held.wipe(room=Room(P, "ca"))
        held.wipe(Room(P, "c"))
        self.assertEqual((patch_of(held), len(held), held.undoable()), ([("", "blue"), ("bca", "blue")], 2, 7))
        held.patch().clear()
        self.assertEqual(len(held), 2)
        self.assertEqual(held.base, Painting.plain(P, "red"))

    def test_errors(self):
        held = Map(CHESS)
        held[Room(L, "ab")] = "red"
        before = state_of(held)
        spot = Painting.spot(Room(L))
        for value in NO_COLOUR_VALUES:
            for deed in (lambda: held.__setitem__(Room(L), value), lambda: held.fill(spot, value), lambda: held.count(value),
                         lambda: held.bar(value, "?", 5), lambda: held.bar("red", "a", value), lambda: held.free(value, "?", 5),
                         lambda: held.free("red", "a", value), lambda: held.step(lambda own, around: value),
                         lambda: held.step(lambda own, around: value if own == "red" else own)):
                self.assertIs(caught(InvalidColour, deed).value, value)
        for value in NO_STRINGS + NO_KINDS:
            self.assertIs(caught(InvalidKind, lambda: held.bar("red", value, "?")).value, value)
            self.assertIs(caught(InvalidKind, lambda: held.free("red", value, "?")).value, value)
        for deed in (lambda: held[Room(P)], lambda: held.__setitem__(Room(P), 5), lambda: held.wipe(Room(P)), lambda: held.move(Motion(P)),
                     lambda: held.fill(Painting.plain(P, "red"), 5), lambda: held.first_apart(Map(Painting.plain(P, "red")))):
            caught(OtherPlan, deed)
        self.assertEqual(caught(NoRegion, lambda: held.fill(CHESS, 5)).colour, "black")
        with self.assertRaises(ZeroDivisionError):
            held.step(lambda own, around: 1 // (own != "red") and own)
        self.assertEqual(state_of(held), before)

    def test_far_rooms(self):
        held = Map(Painting.plain(L, "red"))
        held[Room(L, "ab" * 30)] = "blue"
        for _ in range(17):
            held.move(Motion(L, "ababababab"))
        self.assertEqual(patch_of(held), [("ab" * (30 + 85), "blue")])
        self.assertEqual(held[Room(L, "ab" * 115)], "blue")


class EqualTest(unittest.TestCase):

    def test_other_bases(self):
        one, other = Map(Painting.plain(Q, "red")), Map(Painting.plain(Q, "red").filled(Painting.ball(Room(Q, "a"), 1), "blue"))
        self.assertEqual(one.first_apart(other), Room(Q))
        for room in Painting.ball(Room(Q, "a"), 1).rooms("yes", 9):
            self.assertIs(one == other, False)
            self.assertEqual(one.first_apart(other=other), room)
            one[room] = "blue"
        self.assertIs(one == other, True)
        self.assertIsNone(one.first_apart(other))
        self.assertNotEqual(one.base, other.base)
        other[Room(Q, "acacac")] = "green"
        self.assertEqual(one.first_apart(other), Room(Q, "acacac"))
        one[Room(Q, "acacac")] = "green"
        self.assertEqual(one, other)

    def test_against_all_rooms_near_home(self):
        dice = Random(4)
        for near in every_floor():
            painting, _ = some_painting(dice, near)
            maps = [Map(painting.filled(some_region(dice, near)[0], "red")) for _ in range(3)] + [Map(painting) for _ in range(3)]
            for _ in range(8):
                dice.choice(maps)[near.room(dice.choice(near.within(2)))] = dice.choice(COLOURS)
            for one in maps:
                for other in maps:
                    apart = first_of(name for name in near.names if one[near.room(name)] != other[near.room(name)])
                    room = one.first_apart(other)
                    if apart is None:
                        self.assertTrue(room is None or len(room) > near.far)
                    else:
                        self.assertEqual(room, near.room(apart))
                    self.assertIs(one == other, room is None)

    def test_other_values(self):
        held = Map(CHESS)
        for value in NO_STRINGS + [CHESS, "black", Map(Painting.plain(P, "red"))]:
            self.assertIs(held == value, False)
            self.assertIs(held != value, True)
        barred = Map(CHESS)
        barred.bar("red", "a", "red")
        self.assertEqual(held, barred)

    def test_copied(self):
        held = Map(CHESS)
        held[Room(L, "ab")] = "red"
        held.bar("red", "a", "red")
        copy = held.copied()
        self.assertEqual((copy, copy.barred(), copy.undoable(), patch_of(copy)), (held, held.barred(), 0, patch_of(held)))
        copy[Room(L)] = "red"
        copy.free("red", "a", "red")
        held[Room(L, "b")] = "blue"
        self.assertEqual(patch_of(held), [("b", "blue"), ("ab", "red")])
        self.assertEqual((patch_of(copy), held.barred(), copy.barred()), ([("", "red"), ("ab", "red")], [("red", "a", "red")], []))


class BarredTest(unittest.TestCase):

    def test_triples(self):
        held = Map(CHESS)
        held.bar("red", "b", "blue")
        held.bar(first="blue", kind="b", second="red")
        held.bar("red", "a", "red")
        held.bar("red", "b", "blue")
        self.assertEqual(held.barred(), [("red", "b", "blue"), ("blue", "b", "red"), ("red", "a", "red")])
        self.assertEqual(held.undoable(), 4)
        held.barred().clear()
        held.free("red", "b", "blue")
        self.assertEqual(held.barred(), [("blue", "b", "red"), ("red", "a", "red")])
        error = caught(NotBarred, lambda: held.free(first="red", kind="b", second="blue"))
        self.assertEqual((error.first, error.kind, error.second), ("red", "b", "blue"))
        held.bar("red", "b", "blue")
        self.assertEqual(held.barred(), [("blue", "b", "red"), ("red", "a", "red"), ("red", "b", "blue")])
        self.assertEqual(held.undoable(), 6)

    def test_broken(self):
        held = Map(CHESS)
        held.bar("red", "a", "white")
        before = state_of(held)
        for deed, told in (
            (lambda: held.__setitem__(Room(L), "red"), ("", "a")),
            (lambda: held.__setitem__(Room(L, "ab"), "red"), ("ab", "a")),
            (lambda: held.__setitem__(Room(L, "ba"), "red"), ("b", "a")),
            (lambda: held.bar("black", "b", "white"), ("", "b")),
            (lambda: held.fill(Painting.ball(Room(L, "b"), 1), "red"), ("", "a")),
            (lambda: held.step(lambda own, around: "red" if own == "black" else own), ("", "a")),
        ):
            error = caught(Broken, deed)
            self.assertEqual((error.room, error.kind), (Room(L, told[0]), told[1]))
            self.assertEqual(state_of(held), before)
        held[Room(L, "aba")] = "black"
        held[Room(L, "ab")] = "red"
        error = caught(Broken, lambda: held.wipe(Room(L, "aba")))
        self.assertEqual((error.room, error.kind), (Room(L, "ab"), "a"))

    def test_against_all_doors_near_home(self):
        dice = Random(5)
        broken = done = 0
        for near in every_floor():
            for _ in range(8) if near.plan.kinds else []:
                painting, _ = some_painting(dice, near)
                held = Map(painting)
                for _ in range(14):
                    trial = held.copied()
                    deed, triples = self.some_deed(dice, near)
                    if not triples:
                        deed(self.without_triples(trial))
                    wanted = self.first(near, trial, held.barred() + triples)
                    before = state_of(held)
                    try:
                        deed(held)
                    except Broken as error:
                        broken += 1
                        if wanted is not None:
                            self.assertEqual((error.room.name, error.kind), wanted)
                        else:
                            self.assertGreaterEqual(len(error.room), near.far)
                        self.assertEqual(state_of(held), before)
                    else:
                        done += 1
                        self.assertIsNone(wanted)
                        self.assertEqual(held.undoable(), before[3] + 1)
        self.assertTrue(broken > 150 and done > 300)

    def without_triples(self, held):
        for triple in held.barred():
            held.free(*triple)
        return held

    def some_deed(self, dice, near):
        """A deed upon a map, and the list of the triples that it adds."""
        pick, room, colour = dice.randrange(8), near.room(dice.choice(near.within(2))), dice.choice(COLOURS)
        if pick < 3:
            return lambda held: held.__setitem__(room, colour), []
        if pick == 3:
            return lambda held: held.wipe(room), []
        if pick == 4:
            region = some_region(dice, near)[0]
            return lambda held: held.fill(region, colour), []
        if pick == 5:
            salt = dice.randrange(99)
            return lambda held: held.step(rule_of(salt)) if len(held.base) < 40 else held.wipe(room), []
        if pick == 6:
            motion = Motion(near.plan, dice.choice(near.within(2)), dice.choice(near.plan.renamings()))
            return lambda held: held.move(motion), []
        triple = (colour, dice.choice(near.plan.kinds), dice.choice(COLOURS))
        return lambda held: held.bar(*triple), [triple]

    def first(self, near, held, triples):
        told = {name: held[near.room(name)] for name in near.names}
        for name in near.within(near.far - 1):
            for kind in near.plan.kinds:
                other = near.behind[name][kind]
                pair = (told[name], told[other])
                if len(other) > len(name) and any(kind == step and pair in ((one, two), (two, one)) for one, step, two in triples):
                    return name, kind
        return None


class UndoTest(unittest.TestCase):

    def some_deeds(self):
        spot = Painting.spot(Room(L, "ab"))
        return [
            lambda held: held.__setitem__(Room(L, "a"), "red"), lambda held: held.__setitem__(Room(L, "a"), "red"),
            lambda held: held.wipe(Room(L, "b")), lambda held: held.wipe(Room(L, "a")), lambda held: held.fill(spot, "blue"),
            lambda held: held.fill(spot, "blue"), lambda held: held.move(Motion(L, "a", "ba")), lambda held: held.move(Motion(L)),
            lambda held: held.step(lambda own, around: around[0]), lambda held: held.step(lambda own, around: own),
            lambda held: held.bar("red", "a", "red"), lambda held: held.bar("red", "a", "red"), lambda held: held.free("red", "a", "red"),
        ]

    def test_undo(self):
        held = Map(CHESS)
        caught(NothingToUndo, lambda: held.undo())
        states = [state_of(held)]
        for deed in self.some_deeds():
            deed(held)
            states.append(state_of(held))
            self.assertEqual(held.undoable(), len(states) - 1)
        for wanted in states[-2::-1]:
            held.undo()
            self.assertEqual(state_of(held), wanted)
        caught(NothingToUndo, lambda: held.undo())
        self.assertEqual(held, Map(CHESS))

    def test_many_deeds(self):
        dice = Random(6)
        held = Map(Painting.plain(Q, "red"))
        states = []
        for at in range(200):
            states.append((patch_of(held), at))
            held[Room(Q, "".join(dice.choice("abcd") for _ in range(at % 7)))] = dice.choice(COLOURS)
        for wanted, at in states[::-1]:
            held.undo()
            self.assertEqual((patch_of(held), held.undoable()), (wanted, at))

    def test_attempt(self):
        held = Map(CHESS)
        held[Room(L)] = "red"
        result = held.attempt(lambda same: (same is held, same.__setitem__(Room(L, "a"), "red"), same.undoable()))
        self.assertEqual((result, patch_of(held), held.undoable()), ((True, None, 2), [("", "red"), ("a", "red")], 2))
        before = state_of(held)

        def failing(same, error=KeyError("mine")):
            same.undo()
            same.undo()
            same.bar("red", "a", "blue")
            same.step(lambda own, around: own + "x")
            raise error
        mine = KeyError("mine")
        with self.assertRaises(KeyError) as found:
            held.attempt(lambda same: failing(same, mine))
        self.assertIs(found.exception, mine)
        self.assertEqual(state_of(held), before)
        held.undo()
        held.undo()
        self.assertEqual(state_of(held), state_of(Map(CHESS)))
        caught(NothingToUndo, lambda: held.attempt(action=lambda same: same.undo()))
        with self.assertRaises(KeyboardInterrupt):
            held.attempt(lambda same: (same.bar("red", "b", "red"), same.bar("blue", "b", "red"), failing(same, KeyboardInterrupt())))
        self.assertEqual(state_of(held), state_of(Map(CHESS)))

    def test_trial(self):
        held = Map(CHESS)
        held[Room(L)] = "red"
        before = state_of(held)

        def action(same):
            same.undo()
            same.fill(Painting.spot(Room(L)), "blue")
            return same, same[Room(L)], same.undoable()
        self.assertEqual(held.trial(action), (held, "blue", 1))
        self.assertEqual(state_of(held), before)
        with self.assertRaises(ZeroDivisionError):
            held.trial(action=lambda same: (action(same), 1 // 0))
        self.assertEqual(state_of(held), before)
        self.assertIsNone(held.trial(lambda same: None))

    def test_nested(self):
        held = Map(CHESS)

        def inner(same):
            same[Room(L, "a")] = "red"
            raise KeyError()

        def outer(same):
            same[Room(L)] = "red"
            with self.assertRaises(KeyError):
                same.attempt(inner)
            told = same.trial(lambda again: (again.undo(), patch_of(again)))
            same[Room(L, "b")] = "red"
            return told[1], patch_of(same)
        self.assertEqual(held.trial(outer), ([], [("", "red"), ("b", "red")]))
        self.assertEqual((patch_of(held), held.undoable()), ([], 0))
        self.assertEqual(held.attempt(outer), ([], [("", "red"), ("b", "red")]))
        self.assertEqual((patch_of(held), held.undoable()), ([("", "red"), ("b", "red")], 2))
        with self.assertRaises(KeyError):
            held.attempt(lambda same: same.attempt(inner))
        self.assertEqual(held.undoable(), 2)

    def test_no_results(self):
        held = Map(CHESS)
        for deed in self.some_deeds():
            self.assertIsNone(deed(held))
        self.assertIsNone(held.undo())

    def test_the_painting_stays(self):
        painting = Painting(L, [[1, 0], [1, 0]], ["black", "white"])
        held = Map(painting)
        for deed in self.some_deeds():
            deed(held)
        self.assertEqual(painting, CHESS)


if __name__ == "__main__":
    unittest.main()
