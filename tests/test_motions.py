"""[13], [31], with [2], [20] and [53] as far as they speak of motions."""

import unittest
from itertools import combinations
from random import Random

from crosswalls.blocks import Block
from crosswalls.errors import InvalidRenaming, InvalidWay, Moves, OtherPlan, Stands, TooLong
from crosswalls.lots import Half, Lot
from crosswalls.motions import Motion
from crosswalls.plans import Plan
from crosswalls.rooms import Room
from crosswalls.walls import Wall
from tests.examples import D, L, NO_STRINGS, P, Q, caught
from tests.floors import small_floors
from tests.going import Going, goings
from tests.lists import some_lots

RING = Plan.ring("abcde")
NO_RENAMINGS = ["", "a", "ab", "abcd", "aab", "bac", "abd", "ab ", "ABC", "abca", "\u00e4bc"]


def told(motion):
    return motion.home.name, motion.renaming


def some_goings(dice, times, most=6):
    return [dice.choice(goings(most)) for _ in range(times)]


class ExamplesTest(unittest.TestCase):

    def test_on_a_line(self):
        m = Motion(L, "ab")
        self.assertEqual((m.stands, m.speed, m.order), (False, 2, None))
        m = Motion(L, "a", "ba")
        self.assertEqual((m(Room(L)).name, m(Room(L, "a")).name, m.speed, m.stands), ("a", "ab", 1, False))
        self.assertEqual((m * m, m.power(2)), (Motion(L, "ab"), Motion(L, "ab")))

    def test_about_a_corner(self):
        m = Motion(Q, "a", "badc")
        self.assertEqual((m.order, m.stands, m.speed), (4, True, 0))
        self.assertEqual([m(Room(Q, name)).name for name in ("", "a", "ab", "b")], ["a", "ab", "b", ""])
        room, kinds = m.kept()
        self.assertEqual(Block(room, kinds), Block(Room(Q), "ab"))
        m = Motion(Q, "ac", "bcda")
        self.assertEqual((m(Room(Q, "ab")).name, m.kept()[1]), ("ab", ""))
        self.assertEqual(m(m.kept()[0]), m.kept()[0])

    def test_through_and_on(self):
        m = Motion(D, "abc")
        self.assertEqual((m.speed, m.power(3).home.name), (2, "abababc"))

    def test_far_powers(self):
        self.assertEqual(caught(TooLong, lambda: Motion(L, "ab").power(10 ** 30)).length, 2 * 10 ** 30)


class MakingTest(unittest.TestCase):

    def test_attributes(self):
        for motion in (Motion(P, "cab"), Motion(P, "cab", None), Motion(renaming="abc", way="cab", plan=P)):
            self.assertEqual((motion.plan, motion.home, motion.renaming), (P, Room(P, "bca"), "abc"))
        self.assertEqual(told(Motion(P)), ("", "abc"))
        self.assertEqual(told(Motion(P, "a", "cba")), ("a", "cba"))
        self.assertEqual(told(Motion(Plan(""), "", "")), ("", ""))
        eight = Plan("abcdefgh")
        self.assertEqual(told(Motion(eight, "hg")), ("hg", "abcdefgh"))

    def test_renamings_are_those_of_the_plan(self):
        for going in goings(4):
            for start in ("", going.kinds[:1]):
                fits = [told(Motion(going.plan, start, renaming))[1] for renaming in going.renamings()]
                self.assertEqual(fits, going.plan.renamings())
            every = Going(going.kinds, ()).renamings()
            for renaming in set(every) - set(fits):
                self.assertIs(caught(InvalidRenaming, lambda: Motion(going.plan, "", renaming)).value, renaming)

    def test_wrong_values(self):
        for value in NO_RENAMINGS + NO_STRINGS[1:]:
            self.assertIs(caught(InvalidRenaming, lambda: Motion(P, "a", value)).value, value)
            self.assertIs(caught(InvalidRenaming, lambda: Motion.leading(Room(P), Room(P, "a"), value)).value, value)
        for value in NO_STRINGS:
            self.assertEqual(caught(InvalidWay, lambda: Motion(P, value, "x")).index, 0)
        self.assertEqual(caught(InvalidWay, lambda: Motion(P, "abx", "x")).index, 2)
        self.assertEqual(caught(TooLong, lambda: Motion(P, "a" * 2001, "x")).length, 2001)
        self.assertEqual(told(Motion(P, "a" * 2000)), ("", "abc"))

    def test_equal(self):
        m = Motion(P, "cab", "cba")
        self.assertEqual(m, Motion(Plan("bac", ["cb", "ab"]), "bca", "cba"))
        for other in [Motion(P, "bca"), Motion(P, "b", "cba"), Motion(D, "bca"), "bca", Room(P, "bca")] + NO_STRINGS:
            self.assertIs(m == other, False)
            self.assertIs(m != other, True)


class LeadingTest(unittest.TestCase):

    def test_rooms(self):
        dice = Random(1)
        for going in goings():
            for m in going.some_motions(dice, 5, 4):
                motion = going.motion(m)
                self.assertEqual(told(motion), m)
                for name in going.ball(2)[::3]:
                    image = motion(Room(going.plan, name))
                    self.assertEqual((image.plan, image.name), (going.plan, going.led(m, name)))

    def test_new_objects(self):
        wall = Wall(Room(P, "c"), "a")
        for thing in (Room(P, "ab"), wall, Half(wall), Lot(P, [Half(wall)]), Block(Room(P, "a"), "bc"), Lot(P)):
            image = Motion(P)(thing)
            self.assertEqual(image, thing)
            self.assertIsNot(image, thing)
            self.assertIs(type(image), type(thing))

    def test_walls_and_halves(self):
        dice = Random(2)
        for near in small_floors(5, 4):
            going = Going(near.plan.kinds, near.plan.pairs)
            for m in going.some_motions(dice, 2, 4):
                motion = going.motion(m)
                for (name, kind), wall in dice.sample(sorted(near.walls.items()), min(12, len(near.walls))):
                    if len(name) + len(m[0]) > near.far:
                        continue
                    image = near.walls[going.led(m, name), going.letters(m[1], kind)]
                    self.assertEqual(motion(near.wall(wall)), near.wall(image))
                    for far in (False, True):
                        half = motion(near.half(wall, far))
                        side = (image in near.beyond[going.led(m, name)]) ^ (wall in near.beyond[name]) ^ far
                        self.assertEqual(half, near.half(image, side))
                        self.assertIs(type(half.far), bool)

    def test_lots(self):
        dice = Random(3)
        for near in small_floors(6, 4):
            going = Going(near.plan.kinds, near.plan.pairs)
            motions = list(going.some_motions(dice, 4, 4))
            for lot, _, _ in some_lots(dice, near, 1, 4, 6):
                m = dice.choice(motions)
                image = going.motion(m)(lot)
                self.assertIs(bool(image), bool(lot))
                self.assertEqual(image == lot, [*image.halves] == [*lot.halves] and bool(image) == bool(lot))
                for name in near.within(3):
                    self.assertIs(Room(near.plan, going.led(m, name)) in image, near.room(name) in lot)
                if lot:
                    self.assertEqual(image.gate(Room(near.plan, m[0])).name, going.led(m, lot.gate(near.room("")).name))

    def test_lots_around_rooms(self):
        lot = Lot.around([Room(RING, name) for name in ("", "abd", "ce", "ebd")])
        motion = Motion(RING, "acab", "bcdea")
        image = motion(lot)
        self.assertEqual(image, Lot.around([motion(room) for room in lot.rooms()]))
        self.assertEqual({room.name for room in image.rooms()}, {motion(room).name for room in lot.rooms()})

    def test_blocks(self):
        dice = Random(4)
        for going in some_goings(dice, 60):
            for m in going.some_motions(dice, 4, 3):
                way = "".join(dice.choice(going.kinds) for _ in range(3)) if going.kinds else ""
                kinds = "".join(kind for kind in going.kinds if dice.random() < 0.5)
                block = Block(Room(going.plan, way), kinds)
                image = going.motion(m)(block)
                self.assertEqual(image.kinds, "".join(sorted(going.letters(m[1], kinds))))
                self.assertEqual(image.many, block.many)
                some = [going.name(way + more) for more in ("", kinds, kinds[::-1] + kinds)]
                self.assertTrue(all(Room(going.plan, going.led(m, name)) in image for name in some))
                nearest = min((going.led(m, going.name(way + more)) for more in subsets(kinds)), key=len)
                self.assertLessEqual(len(image.room), len(nearest))
                self.assertEqual(image, Block(Room(going.plan, nearest), image.kinds))

    def test_other_plan(self):
        wall = Wall(Room(D), "a")
        for thing in (Room(D), wall, Half(wall), Lot(D), Lot(D, [Half(wall), ~Half(wall)]), Block(Room(D), "a")):
            caught(OtherPlan, lambda: Motion(P)(thing))

    def test_long_names(self):
        line = Motion(L, "ab" * 1000)
        far = Room(L, "ab" * 30)
        self.assertEqual(caught(TooLong, lambda: line(far)).length, 2060)
        self.assertEqual(caught(TooLong, lambda: line(Wall(far, "a"))).length, 2060)
        self.assertEqual(caught(TooLong, lambda: line(Half(Wall(far, "a"), True))).length, 2060)
        halves = [Half(Wall(Room(L, "ba"), "b")), Half(Wall(Room(L, "abab"), "a"))]
        # From home the halves of the lot are in the order of their walls.
        self.assertEqual(caught(TooLong, lambda: line(Lot(L, halves))).length, 2004)
        self.assertEqual(line(Lot(L, halves[:1])).halves[0].wall.room.name, "ab" * 998 + "a")
        self.assertEqual(caught(TooLong, lambda: line(Block(far, "a"))).length, 2060)
        self.assertEqual(caught(TooLong, lambda: line * Motion(L, "ab")).length, 2002)
        self.assertEqual(caught(TooLong, lambda: Motion.leading(Room(L, "ba" * 600), Room(L, "ab" * 600))).length, 2400)
        self.assertEqual(caught(TooLong, lambda: Motion.about(Wall(Room(L, "ab" * 501), "a"))).length, 2005)


def subsets(kinds):
    return ["".join(chosen) for many in range(len(kinds) + 1) for chosen in combinations(kinds, many)]


class ProductsTest(unittest.TestCase):

    def test_products_and_turning_back(self):
        dice = Random(5)
        for going in goings():
            motions = list(going.some_motions(dice, 4, 3))
            for m in motions:
                one, back = going.motion(m), ~going.motion(m)
                self.assertEqual(told(back), going.back(m))
                self.assertEqual((one * back, back * one), (Motion(going.plan), Motion(going.plan)))
                for n in motions:
                    both = one * going.motion(n)
                    self.assertEqual(both.home.name, going.led(m, n[0]))
                    self.assertEqual(both.renaming, going.letters(m[1], n[1]))
                    room = Room(going.plan, going.kinds[-2:])
                    self.assertEqual(both(room), one(going.motion(n)(room)))

    def test_powers(self):
        dice = Random(6)
        for going in some_goings(dice, 100):
            for m in going.some_motions(dice, 5, 3):
                wanted = {0: Motion(going.plan)}
                for number in range(1, 13):
                    wanted[number] = wanted[number - 1] * going.motion(m)
                    wanted[-number] = wanted[1 - number] * ~going.motion(m)
                for number in wanted:
                    self.assertEqual(going.motion(m).power(number), wanted[number])
                self.assertEqual(going.motion(m).power(n=-1), ~going.motion(m))

    def test_far_powers(self):
        dice = Random(7)
        for going in some_goings(dice, 80):
            for m in going.some_motions(dice, 6, 2):
                motion = going.motion(m)
                if motion.stands:
                    order = motion.order
                    for number in (10 ** 40, -10 ** 40 - 1, 2001 * order + 1):
                        self.assertEqual(motion.power(number), motion.power(number % order))
                elif m[0]:
                    self.check_lengths(motion)

    def check_lengths(self, motion):
        step = 12 * motion.speed
        lengths = [caught(TooLong, lambda: motion.power(sign * 12 * lap)).length
                   for sign in (1, -1) for lap in (200, 201, 10 ** 30)]
        self.assertEqual(lengths, [lengths[0], lengths[0] + step, lengths[0] + step * (10 ** 30 - 200)] * 2)
        if step * 10 < 1900:
            self.assertEqual(lengths[0], len(motion.power(120).home) + step * 190)

    def test_powers_of_long_homes(self):
        m = Motion(L, "ab").power(1000)
        self.assertEqual((m.power(-1), m.power(1), m.speed), (Motion(L, "ba" * 1000), m, 2000))
        self.assertEqual(caught(TooLong, lambda: m.power(2)).length, 4000)
        wound = Motion(Plan("abc"), "abc" * 300 + "ab" + "cba" * 300)
        self.assertEqual((wound.power(5).home.name, wound.speed), ("abc" * 300 + "ab" * 5 + "cba" * 300, 2))
        self.assertEqual(caught(TooLong, lambda: wound.power(-10 ** 9)).length, 1800 + 2 * 10 ** 9)

    def test_at_the_limit(self):
        m = Motion(L, "ab")
        self.assertEqual(len(m.power(1000).home), 2000)
        self.assertEqual(len(m.power(-1000).home), 2000)
        self.assertEqual(caught(TooLong, lambda: m.power(1001)).length, 2002)
        self.assertEqual(caught(TooLong, lambda: m.power(-1001)).length, 2002)
        wound = Motion(Plan("abc"), "cabc")
        self.assertEqual(len(wound.power(999).home), 2000)
        self.assertEqual(caught(TooLong, lambda: wound.power(1000)).length, 2002)

    def test_other_plan(self):
        caught(OtherPlan, lambda: Motion(P) * Motion(D))
        with self.assertRaises(TypeError):
            Motion(P) * Room(P)

    def test_leading(self):
        dice = Random(8)
        for going in goings():
            renamings = going.renamings()
            for _ in range(3):
                first, second = [going.name("".join(dice.choice(going.kinds) for _ in range(4)) if going.kinds else "") for _ in "12"]
                renaming = dice.choice(renamings)
                rooms = Room(going.plan, first), Room(going.plan, second)
                found = Motion.leading(*rooms, renaming)
                self.assertEqual(found(rooms[0]), rooms[1])
                self.assertEqual(found.renaming, renaming)
                self.assertEqual(Motion.leading(second=rooms[1], first=rooms[0]).renaming, going.kinds)
        caught(OtherPlan, lambda: Motion.leading(Room(P), Room(D), "x"))

    def test_about(self):
        for near in small_floors(4, 3):
            for wall in near.every_wall:
                if len(wall[0]) <= 2:
                    motion = Motion.about(near.wall(wall))
                    doors = [door for door, its_wall in near.walls.items() if its_wall == wall]
                    for name, kind in doors[:6]:
                        self.assertEqual(motion(near.room(name)), near.room(name)[kind])
                        self.assertEqual(motion(near.room(name)[kind]), near.room(name))
                    self.assertEqual((motion.renaming, motion.order), (near.plan.kinds, 2))


def renaming_order(going, renaming):
    images, many = renaming, 1
    while images != going.kinds:
        images, many = going.letters(renaming, images), many + 1
    return many


class LongRunTest(unittest.TestCase):

    def test_order_stands_and_speed(self):
        dice = Random(9)
        standing = 0
        for going in goings():
            for m in going.some_motions(dice, 4, 4):
                motion = going.motion(m)
                power, order = m, 1
                while power != ("", going.kinds) and order <= 60:
                    power, order = (going.led(m, power[0]), going.letters(m[1], power[1])), order + 1
                wanted = order if order <= 60 else None
                self.assertEqual((motion.order, motion.stands), (wanted, wanted is not None))
                self.assertIs(type(motion.stands), bool)
                laps = 8 * renaming_order(going, m[1])
                images = going.images(m, "", 0, 2 * laps)
                self.assertEqual(motion.speed * laps, len(images[2 * laps]) - len(images[laps]))
                standing += motion.stands
        self.assertGreater(standing, 100)

    def test_kept(self):
        dice = Random(10)
        sizes = {}
        for going in goings():
            for m in going.some_motions(dice, 4, 5):
                motion = going.motion(m)
                if not motion.stands:
                    self.assertIs(caught(Moves, lambda: motion.kept()).motion, motion)
                    continue
                room, kinds = motion.kept()
                self.assertEqual((type(room), type(kinds), kinds), (Room, str, "".join(sorted(set(kinds)))))
                for one, other in combinations(kinds, 2):
                    self.assertTrue(going.plan.crosses(one, other))
                self.assertEqual(motion(Block(room, kinds)), Block(room, kinds))
                self.check_fewest(going, m, len(kinds))
                sizes[len(kinds)] = sizes.get(len(kinds), 0) + 1
        self.assertGreaterEqual(min(sizes[many] for many in (0, 1, 2, 3)), 5)

    def check_fewest(self, going, m, many):
        """No room near home, with fewer kinds that cross each other, has a block that is led onto itself."""
        if len(going.kinds) > 5:
            return
        for name in going.ball(2):
            way = going.name(name[::-1] + going.led(m, name))
            self.assertFalse(len(set(way)) < many and len(way) == len(set(way)) and all(
                one + other in going.crossing for one, other in combinations(way, 2)
            ) and set(going.letters(m[1], way)) == set(way))

    def test_line(self):
        dice = Random(11)
        for going in goings():
            for m in going.some_motions(dice, 4, 3):
                motion = going.motion(m)
                if motion.stands:
                    self.assertIs(caught(Stands, lambda: motion.line()).motion, motion)
                    continue
                room, way, times = motion.line()
                self.assertEqual((type(room), type(way), type(times)), (Room, str, int))
                self.assertTrue(times > 0 and len(way) == times * motion.speed and len(way) <= 400)
                images = [going.name(room.name + way * lap) for lap in range(4)]
                for lap in range(3):
                    self.assertEqual(going.images(m, images[lap], 0, times)[times], images[lap + 1])
                self.assertEqual(going.distance(images[0], images[3]), 3 * len(way))

    def test_longest_homes(self):
        for way, renaming in (("abcdef" * 4, None), ("ace" * 4, "bcdefa"), ("abdacebdface", "bcdefa"), ("fedcbafedcba", "badcfe")):
            for plan in (Plan("abcdef"), Plan.ring("abcdef"), Plan("abcdef", ["ad", "be", "cf"])):
                if renaming in [None] + plan.renamings():
                    motion = Motion(plan, way, renaming)
                    if not motion.stands:
                        room, along, times = motion.line()
                        self.assertLessEqual(len(along), 400)
                        self.assertEqual(motion.power(times)(room), room + along)


if __name__ == "__main__":
    unittest.main()
