"""[32], with [2], [13] and [53] as far as they speak of alike motions."""

import unittest
from random import Random

from crosswalls.cores import core, least_step, led, to_core
from crosswalls.errors import InvalidRenaming, OtherPlan
from crosswalls.motions import Motion
from crosswalls.plans import Plan
from tests.examples import D, L, NO_STRINGS, P, Q, caught
from tests.going import goings
from tests.test_motions import NO_RENAMINGS, told


def seen_from(going, m, name):
    """The name of the home of a motion, as it is seen from a room."""
    return going.name(name[::-1] + going.led(m, name))


def first_home(going, m, far):
    homes = [seen_from(going, m, name) for name in going.ball(far)]
    return min(homes, key=lambda home: (len(home), home))


class ExamplesTest(unittest.TestCase):

    def test_examples(self):
        self.assertEqual(core(Motion(Q, "ac", "bcda")), Motion(Q, "", "bcda"))
        room = to_core(Motion(Q, "ac", "bcda"))
        self.assertEqual(Motion(Q, "ac", "bcda")(room), room)
        self.assertEqual(core(Motion(D, "bab")), Motion(D, "a"))
        found = led(Motion(L, "ab"), Motion(L, "ba"))
        self.assertEqual(found * Motion(L, "ab") * ~found, Motion(L, "ba"))
        self.assertIsNone(led(Motion(L, "a"), Motion(L, "b")))
        found = led(Motion(L, "a"), Motion(L, "b"), renamings=["ba"])
        self.assertEqual((found.renaming, found * Motion(L, "a") * ~found), ("ba", Motion(L, "b")))
        self.assertEqual(least_step(Motion(Q, "a", "badc"))[0], 1)


class CoreTest(unittest.TestCase):

    def test_first_home(self):
        dice = Random(1)
        for going in goings():
            many = len(going.kinds)
            for m in going.some_motions(dice, 7 if many < 4 else 4, 4 if many < 5 else 2):
                found = core(going.motion(m))
                self.assertEqual(found.renaming, m[1])
                near = first_home(going, m, 5 if many < 4 else 3)
                if many < 4:
                    self.assertEqual(found.home.name, near)
                self.assertLessEqual((len(found.home), found.home.name), (len(near), near))

    def test_room_of_the_core(self):
        dice = Random(2)
        for going in goings():
            for m in going.some_motions(dice, 8, 4):
                motion = going.motion(m)
                room = to_core(motion)
                self.assertEqual(told(core(motion)), (seen_from(going, m, room.name), m[1]))
                shift = Motion(going.plan, room.name)
                self.assertEqual(~shift * motion * shift, core(motion))
                self.assertEqual(core(core(motion)), core(motion))

    def test_alike_motions_have_one_core(self):
        dice = Random(3)
        for going in goings():
            for m in going.some_motions(dice, 6, 3):
                motion = going.motion(m)
                way = "".join(dice.choice(going.kinds) for _ in range(4)) if going.kinds else ""
                shift = Motion(going.plan, way)
                other = ~shift * motion * shift
                self.assertEqual(core(other), core(motion))
                self.assertEqual((other.order, other.speed), (motion.order, motion.speed))

    def test_least_step(self):
        dice = Random(4)
        for going in goings():
            for m in going.some_motions(dice, 6, 3):
                distance, room = least_step(going.motion(m))
                self.assertIs(type(distance), int)
                self.assertEqual(distance, going.distance(room.name, going.led(m, room.name)))
                self.assertEqual(distance, len(core(going.motion(m)).home))
                for name in going.ball(2):
                    self.assertLessEqual(distance, len(seen_from(going, m, name)))

    def test_longest_homes(self):
        dice = Random(5)
        eight = Plan("abcdefgh", [a + b for a in "abcdefgh" for b in "abcdefgh" if a < b and "abcdefgh".index(b) - "abcdefgh".index(a) not in (1, 7)])
        for plan in (eight, Plan.ring("abcdefgh"), Plan("abcdefgh"), Plan("ab") * Plan("cd") * Plan("ef") * Plan("gh")):
            for way in ("acegbdfh" * 3, "".join(dice.choice(plan.kinds) for _ in range(24)), "abcdhgfe" + "bdfhaceg" + "efghdcba"):
                motion = Motion(plan, way)
                found = core(motion)
                shift = Motion(plan, to_core(motion).name)
                self.assertEqual(~shift * motion * shift, found)
                around = Motion(plan, "gahbe")
                self.assertEqual(core(around * motion * ~around), found)
        for renaming in Plan.ring("abcdef").renamings():
            motion = Motion(Plan.ring("abcdef"), "adbecfdacfbeadce", renaming)
            shift = Motion(motion.plan, to_core(motion).name)
            self.assertEqual(~shift * motion * shift, core(motion))


class LedTest(unittest.TestCase):

    def test_by_shifts(self):
        dice = Random(6)
        none = 0
        for going in goings():
            motions = list(going.some_motions(dice, 4, 4))
            way = "".join(dice.choice(going.kinds) for _ in range(3)) if going.kinds else ""
            motions.append((seen_from(going, motions[0], going.name(way)), motions[0][1]))
            for m in motions:
                one, other = going.motion(motions[-1]), going.motion(m)
                found = led(one, other)
                if found is None:
                    none += 1
                    self.assertIsNot(m, motions[0])
                    self.check_none(going, motions[-1], m)
                else:
                    self.assertEqual(found.renaming, going.kinds)
                    self.assertEqual(found * one * ~found, other)
        self.assertGreater(none, 100)

    def check_none(self, going, m, n):
        for name in going.ball(2):
            self.assertNotEqual((seen_from(going, m, name), m[1]), n)

    def test_by_renamings(self):
        dice = Random(7)
        for going in goings():
            renamings = going.renamings()
            for m in going.some_motions(dice, 4, 2):
                chosen = [dice.choice(renamings) for _ in range(3)]
                by = going.motion(("", chosen[-1])) * Motion(going.plan, going.kinds[::-1][:3])
                one, other = going.motion(m), by * going.motion(m) * ~by
                found = led(one, other, renamings=chosen)
                self.assertEqual(found * one * ~found, other)
                for renaming in chosen[:chosen.index(found.renaming)]:
                    self.assertIsNone(led(one, other, renamings=[renaming]))
                self.assertEqual(led(second=other, first=one, renamings=tuple(chosen)), found)
                self.assertIsNone(led(one, other, renamings=[]))
                self.assertIsNone(led(one, one, renamings=()))

    def test_first_renaming_that_does(self):
        self.assertEqual(led(Motion(L, "a"), Motion(L, "a"), renamings=["ba", "ab"]).renaming, "ab")
        self.assertEqual(led(Motion(L), Motion(L), renamings=["ba", "ab"]).renaming, "ba")
        self.assertEqual(led(Motion(L, "ab"), Motion(L, "ab"), renamings=["ba"]).renaming, "ba")

    def test_wrong_values(self):
        for value in NO_RENAMINGS + NO_STRINGS:
            for renamings in ([value], ["cba", value, 7], ("abc", "cba", value)):
                self.assertIs(caught(InvalidRenaming, lambda: led(Motion(P), Motion(P), renamings=renamings)).value, value)
        self.assertEqual(caught(InvalidRenaming, lambda: led(Motion(P, "a"), Motion(P, "b"), renamings=["abc", "x"])).value, "x")
        caught(OtherPlan, lambda: led(Motion(P), Motion(D), renamings=["x"]))
        caught(OtherPlan, lambda: led(Motion(P), Motion(D), renamings=[]))


if __name__ == "__main__":
    unittest.main()
