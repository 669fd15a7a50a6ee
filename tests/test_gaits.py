"""[33], [35], with [2] and [53] as far as they speak of gaits."""

import unittest
from random import Random

from crosswalls.errors import OtherPlan
from crosswalls.gaits import Gait, When, brings, fate, when
from crosswalls.lots import Half, Lot
from crosswalls.motions import Motion
from crosswalls.plans import Plan
from crosswalls.rooms import Room
from crosswalls.walls import Wall
from tests.examples import D, L, NO_STRINGS, P, Q, caught
from tests.going import goings

FAR = 40


def some_way(dice, going, longest):
    return "".join(dice.choice(going.kinds) for _ in range(dice.randrange(longest + 1))) if going.kinds else ""


def some_goings(dice, times, most=6):
    return [dice.choice(goings(most)) for _ in range(times)]


def members(times, low, high):
    return [number for number in range(low, high) if number in times]


class ExamplesTest(unittest.TestCase):

    def test_gaits(self):
        g = Gait(Motion(L, "ab"), Room(L), Room(L, "ba"))
        self.assertEqual((g(0), g(1), g(10 ** 30)), (2, 0, 2 * 10 ** 30 - 2))
        self.assertEqual([g(number) for number in range(-50, 50)], [2 * abs(number - 1) for number in range(-50, 50)])
        self.assertEqual((g.period, g.behind, g.ahead, g.least()), (1, 1, 1, (0, 1)))
        self.assertEqual(members(g.within(3), -50, 50), [0, 1, 2])
        g = Gait(Motion(D, "abc"), Room(D), Room(D))
        self.assertEqual([g(number) for number in range(5)], [0, 3, 4, 7, 8])
        self.assertEqual((g.period, g.behind, g.ahead), (2, 0, 0))

    def test_when_and_fate(self):
        self.assertEqual(when(Motion(L, "ab"), Room(L), Half(Wall(Room(L), "a"), far=True)), When.since(1))
        self.assertEqual(brings(Motion(Q, "a", "badc"), Room(Q), Room(Q, "b")), When.rests(4, [3]))
        plan = Plan("abc")
        one, three = Wall(Room(plan), "a"), Wall(Room(plan), "c")
        self.assertEqual(fate(Motion(plan, "ab"), one), ("passed", Half(one, True)))
        self.assertEqual(fate(Motion(plan, "ab"), three), ("beside", Half(three)))
        self.assertEqual(fate(Motion(D, "ab"), Wall(Room(D), "c")), ("kept", 1))


class GaitTest(unittest.TestCase):

    def test_distances(self):
        dice = Random(1)
        for going in some_goings(dice, 150):
            for m in going.some_motions(dice, 4, 2):
                start, goal = going.name(some_way(dice, going, 5)), going.name(some_way(dice, going, 5))
                gait = Gait(going.motion(m), Room(going.plan, start), Room(going.plan, goal))
                images = going.images(m, goal, -FAR, FAR)
                row = {number: going.distance(start, images[number]) for number in images}
                self.assertEqual({number: gait(number) for number in row}, row)
                self.check_period(gait, row, going.motion(m))
                value = min(row.values())
                self.assertEqual(gait.least(), (value, min((n for n in row if row[n] == value), key=lambda n: (abs(n), -n))))

    def check_period(self, gait, row, motion):
        speed = motion.speed
        if motion.stands:
            wanted = next(p for p in range(1, 30) if all(row[n] == row[n + p] for n in range(-FAR, FAR - p)))
            self.assertEqual((gait.period, gait.ahead, gait.behind), (wanted, None, None))
            return
        for period in range(1, 13):
            ahead = [n for n in range(-FAR, FAR - period + 1) if row[n + period] != row[n] + speed * period]
            behind = [n for n in range(period - FAR, FAR + 1) if row[n - period] != row[n] + speed * period]
            if ahead[-1] < FAR - 24 and behind[0] > 24 - FAR:
                self.assertEqual((gait.period, gait.ahead, gait.behind), (period, ahead[-1] + 1, behind[0] - 1))
                return
        self.fail("no period")

    def test_far_off(self):
        dice = Random(2)
        for going in some_goings(dice, 80):
            for m in going.some_motions(dice, 5, 2):
                motion = going.motion(m)
                gait = Gait(motion, Room(going.plan, some_way(dice, going, 6)), Room(going.plan, some_way(dice, going, 6)))
                period = gait.period
                self.assertTrue(type(period) is int and period >= 1)
                for number in (10 ** 30, -10 ** 30, 5000, -5001):
                    ahead = period if number > 0 else -period
                    self.assertEqual(gait(number + ahead), gait(number) + motion.speed * period)
                    self.assertEqual(gait(n=number), gait(number))
                if not motion.stands:
                    self.check_fields(gait, motion)

    def check_fields(self, gait, motion):
        grows = gait.period * motion.speed
        for number in (gait.ahead, gait.ahead + 1, gait.ahead + 100):
            self.assertEqual(gait(number + gait.period), gait(number) + grows)
        for number in (gait.behind, gait.behind - 1, gait.behind - 100):
            self.assertEqual(gait(number - gait.period), gait(number) + grows)
        self.assertNotEqual(gait(gait.ahead - 1 + gait.period), gait(gait.ahead - 1) + grows)
        self.assertNotEqual(gait(gait.behind + 1 - gait.period), gait(gait.behind + 1) + grows)

    def test_within(self):
        dice = Random(3)
        for going in some_goings(dice, 100):
            for m in going.some_motions(dice, 4, 2):
                gait = Gait(going.motion(m), Room(going.plan, some_way(dice, going, 5)), Room(going.plan, some_way(dice, going, 5)))
                for distance in (-1, 0, 3, gait.least()[0], 20, 300):
                    found = gait.within(distance)
                    self.assertEqual(members(found, -70, 70), [n for n in range(-70, 70) if gait(n) <= distance])
                    self.check_ends(gait, found, distance)

    def check_ends(self, gait, found, distance):
        if gait.ahead is not None:
            self.assertTrue(found.is_finite)
            last = found.latest(10 ** 50)
            if last is not None:
                self.assertLessEqual(gait(last), distance)
                self.assertTrue(all(gait(last + more) > distance for more in range(1, 30)))

    def test_within_far_distances(self):
        gait = Gait(Motion(D, "abc"), Room(D), Room(D))
        found = gait.within(distance=10 ** 40)
        # From 0 on the distances are 0, 3, 4, 7, 8 ..; so are they below.
        self.assertEqual((found.latest(10 ** 60), found.earliest(-10 ** 60)), (5 * 10 ** 39, -5 * 10 ** 39))
        self.assertEqual(found.count(-10 ** 60, 10 ** 60), 10 ** 40 + 1)
        gait = Gait(Motion(D, "abc"), Room(D), Room(D, "c"))
        found = gait.within(10 ** 40)
        last = found.latest(10 ** 60)
        self.assertEqual([last - more in found for more in range(-4, 3)], [gait(last - more) <= 10 ** 40 for more in range(-4, 3)])

    def test_equal(self):
        dice = Random(4)
        for going in some_goings(dice, 40, 4):
            motions = list(going.some_motions(dice, 3, 3))
            gaits = [Gait(going.motion(m), Room(going.plan, some_way(dice, going, 3)), Room(going.plan, some_way(dice, going, 3)))
                     for m in motions for _ in "123"]
            rows = [[gait(number) for number in range(-80, 81)] for gait in gaits]
            for one, row in zip(gaits, rows):
                for other, its_row in zip(gaits, rows):
                    self.assertIs(one == other, row == its_row)

    def test_equal_of_unequal_plans(self):
        line = Gait(Motion(L, "ab"), Room(L), Room(L))
        self.assertEqual(Gait(Motion(D, "ab"), Room(D), Room(D)), line)
        self.assertEqual(Gait(Motion(L, "ba"), Room(L), Room(L)), line)
        self.assertNotEqual(Gait(Motion(L, "ab"), Room(L), Room(L, "ba")), line)
        self.assertNotEqual(Gait(Motion(L, "a", "ba"), Room(L), Room(L)), line)
        self.assertEqual(Gait(Motion(L), Room(L), Room(L, "a")), Gait(Motion(Plan("c")), Room(Plan("c"), "c"), Room(Plan("c"))))
        for value in NO_STRINGS + ["", Motion(L, "ab"), When.since(0)]:
            self.assertIs(line == value, False)

    def test_attributes_and_other_plans(self):
        motion, start, goal = Motion(P, "ab"), Room(P, "c"), Room(P, "bc")
        gait = Gait(goal=goal, motion=motion, start=start)
        self.assertEqual((gait.motion, gait.start, gait.goal), (motion, start, goal))
        for wrong in ((motion, Room(D), goal), (motion, start, Room(D)), (Motion(D), start, goal)):
            caught(OtherPlan, lambda: Gait(*wrong))

    def test_longest_names(self):
        eight = Plan("abcdefgh", ["ac", "bd", "eg", "fh", "ae", "bf", "af"])
        for plan, renaming in ((eight, None), (Plan.ring("abcdef"), "bcdefa"), (Plan("abcdef"), "bcaedf")):
            way = "abcdabceacdb"
            motion = Motion(plan, way if renaming else "abcdefghabcdefgh" + "hgfedcba", renaming)
            start, goal = Room(plan, "abcdef" * 4), Room(plan, "fedacb" * 4)
            gait = Gait(motion, start, goal)
            self.assertEqual([gait(number) for number in (0, 1, -1)], [start.distance(motion.power(number)(goal)) for number in (0, 1, -1)])
            for number in (5, -7, 13):
                self.assertEqual(gait(number), start.distance(motion.power(number)(goal)))


class WhenTest(unittest.TestCase):

    def test_halves(self):
        dice = Random(5)
        for going in some_goings(dice, 100):
            for m in going.some_motions(dice, 4, 2):
                if going.kinds:
                    half = Half(Wall(Room(going.plan, some_way(dice, going, 5)), dice.choice(going.kinds)), dice.random() < 0.5)
                    self.check_rooms(going, m, some_way(dice, going, 5), half)

    def check_rooms(self, going, m, way, lot):
        found = when(going.motion(m), Room(going.plan, way), lot)
        images = going.images(m, going.name(way), -30, 30)
        self.assertEqual(members(found, -30, 31), [number for number in range(-30, 31) if Room(going.plan, images[number]) in lot])
        for number in (10 ** 20, -10 ** 20):
            # Twice the order of the renaming is a period in the long run.
            self.assertIs(number in found, number + 2 * 60 in found)
        return found

    def test_lots(self):
        dice = Random(6)
        for going in some_goings(dice, 100):
            for m in going.some_motions(dice, 4, 2):
                halves = [Half(Wall(Room(going.plan, some_way(dice, going, 3)), dice.choice(going.kinds)), dice.random() < 0.4)
                          for _ in range(dice.randrange(4))] if going.kinds else []
                found = self.check_rooms(going, m, some_way(dice, going, 4), Lot(going.plan, halves))
                both = ~When.rests(1, [])
                for half in halves:
                    both = both & when(going.motion(m), Room(going.plan), half)
                self.assertEqual(when(going.motion(m), Room(going.plan), Lot(going.plan, halves)), both)
                self.assertIs(type(found), When)

    def test_lots_around_rooms(self):
        dice = Random(7)
        for going in some_goings(dice, 60):
            for m in going.some_motions(dice, 3, 2):
                lot = Lot.around([Room(going.plan, some_way(dice, going, 8)) for _ in range(3)])
                found = self.check_rooms(going, m, some_way(dice, going, 4), lot)
                self.assertIs(found.is_finite, not going.motion(m).stands or not found)

    def test_empty_and_whole(self):
        for m in (Motion(P, "abc"), Motion(P, "a", "cba"), Motion(P)):
            wall = Wall(Room(P, "c"), "a")
            self.assertEqual(when(m, Room(P, "b"), Lot(P)), ~When.rests(1, []))
            self.assertEqual(when(m, Room(P, "b"), Lot(P, [Half(wall), ~Half(wall)])), When.rests(1, []))
            self.assertEqual(when(lot=Half(wall), room=Room(P), motion=m), ~when(m, Room(P), ~Half(wall)))

    def test_farthest_lots(self):
        plan = Plan.ring("abcdef")
        for renaming in (None, "bcdefa"):
            motion = Motion(plan, "acebdface" + "bdf", renaming)
            halves = [Half(Wall(Room(plan, way * 10), kind)) for way in ("acebdf", "bdfaec", "cfadbe") for kind in "ace"]
            room = Room(plan, "cfaebd" * 4)
            found = when(motion, room, Lot(plan, halves))
            self.assertEqual(members(found, -6, 7), [n for n in range(-6, 7) if motion.power(n)(room) in Lot(plan, halves)])

    def test_brings(self):
        dice = Random(8)
        some = 0
        for going in some_goings(dice, 150):
            for m in going.some_motions(dice, 3, 2):
                first = going.name(some_way(dice, going, 4))
                images = going.images(m, first, -25, 25)
                second = images[dice.randrange(-9, 10)] if dice.random() < 0.7 else going.name(some_way(dice, going, 4))
                found = brings(going.motion(m), Room(going.plan, first), Room(going.plan, second))
                self.assertEqual(members(found, -25, 26), [number for number in range(-25, 26) if images[number] == second])
                self.assertIs(found.is_finite, not going.motion(m).stands or not found)
                some += bool(found)
        self.assertGreater(some, 150)

    def test_other_plan(self):
        wall = Wall(Room(D), "a")
        for wrong in ((Motion(P), Room(D), Lot(P)), (Motion(P), Room(P), Lot(D)), (Motion(P), Room(P), Half(wall)), (Motion(D), Room(P), Lot(P))):
            caught(OtherPlan, lambda: when(*wrong))
        for wrong in ((Motion(P), Room(D), Room(P)), (Motion(P), Room(P), Room(D)), (Motion(D), Room(P), Room(P))):
            caught(OtherPlan, lambda: brings(*wrong))
        caught(OtherPlan, lambda: fate(Motion(P), wall))


class FateTest(unittest.TestCase):

    def test_long_run(self):
        dice = Random(9)
        counted = {}
        for going in goings():
            for m in going.some_motions(dice, 4, 4) if going.kinds else []:
                motion = going.motion(m)
                wall = Wall(Room(going.plan, some_way(dice, going, 4)), dice.choice(going.kinds))
                word, told = fate(motion, wall)
                counted[word] = counted.get(word, 0) + 1
                kept = [number for number in range(1, 13) if motion.power(number)(wall) == wall]
                if word == "kept":
                    self.assertEqual((type(told), told), (int, kept[0]))
                    continue
                self.assertEqual((kept, told.wall), ([], wall))
                for way in ("", some_way(dice, going, 3)):
                    inside = [Room(going.plan, name) in told for name in going.images(m, going.name(way), -24, 24).values()]
                    self.assertTrue(all(inside[12:25]))
                    self.assertEqual(inside[-12:], [word == "beside"] * 12)
        self.assertGreater(min(counted[word] for word in ("kept", "passed", "beside")), 40)


if __name__ == "__main__":
    unittest.main()
