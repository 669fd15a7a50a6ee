"""[36], with [2], [13] and [53] as far as they speak of powers of shifts."""

import unittest
from random import Random

from crosswalls.errors import InvalidTimes, OtherPlan, Renamed, Stands
from crosswalls.motions import Motion
from crosswalls.plans import Plan
from crosswalls.powers import along, root, roots, same_powers
from crosswalls.rooms import Room
from tests.examples import D, L, NO_STRINGS, P, Q, caught
from tests.going import goings


def some_way(dice, kinds, longest):
    return "".join(dice.choice(kinds) for _ in range(dice.randrange(longest + 1))) if kinds else ""


def some_shifts(dice, going, longest, times):
    """Shifts, many of them powers, seen from some room."""
    for _ in range(times):
        around, way = some_way(dice, going.kinds, 2), some_way(dice, going.kinds, longest)
        yield Motion(going.plan, around + way * dice.choice([1, 1, 2, 3, 4, 6]) + around[::-1])


class ExamplesTest(unittest.TestCase):

    def test_examples(self):
        found = along(Motion(D, "ab"))
        self.assertEqual((found.kinds, [len(way) for way in found.strides]), ("c", [2]))
        one, many = roots(Motion(D, "abab"), 2)
        self.assertIn(one, [Motion(D, "ab"), Motion(D, "abc")])
        self.assertEqual(many, 2)
        self.assertEqual(roots(Motion(D, "abc"), 2), (None, 0))
        one, many = roots(Motion(L, ""), 2)
        self.assertEqual((one * one, many), (Motion(L), None))
        self.assertEqual(roots(Motion(L, ""), 3), (Motion(L), 1))
        self.assertEqual(root(Motion(D, "abababc")), (Motion(D, "abc"), 3))
        self.assertEqual(same_powers(Motion(D, "ab"), Motion(D, "abc")), (2, 2))
        self.assertEqual(same_powers(Motion(D, "ab"), Motion(D, "ba")), (1, -1))


class AlongTest(unittest.TestCase):

    def test_all_shifts_near_home(self):
        dice = Random(1)
        for going in goings():
            ball = going.ball(3 if len(going.kinds) < 5 else 2)
            for motion in some_shifts(dice, going, 3, 2):
                found = along(motion)
                for name in ball[::1 if len(ball) < 60 else 3]:
                    n = Motion(going.plan, name)
                    exchanged = going.name(name + motion.home.name) == going.name(motion.home.name + name)
                    self.assertIs(n in found, exchanged)
                    self.assertIs(found.parts(n) is not None, exchanged)
                    if exchanged:
                        self.check_parts(going, found, n)

    def check_parts(self, going, found, n):
        self.assertEqual(found.parts(n), found.parts(n=n))
        name, powers = found.parts(n)
        self.assertEqual((type(powers), len(powers)), (tuple, len(found.strides)))
        self.assertTrue(set(name) <= set(found.kinds) and name == going.name(name))
        way = name + "".join((stride if power > 0 else stride[::-1]) * abs(power) for stride, power in zip(found.strides, powers))
        self.assertEqual(going.name(found.room.name + way + found.room.name[::-1]), n.home.name)

    def test_what_is_told(self):
        dice = Random(2)
        for going in goings():
            for motion in some_shifts(dice, going, 6, 3):
                found = along(motion)
                self.assertEqual((type(found.room), type(found.kinds), type(found.strides)), (Room, str, tuple))
                self.assertEqual(found.kinds, "".join(sorted(set(found.kinds))))
                for at, stride in enumerate(found.strides):
                    for other in (found.kinds,) + found.strides[at + 1:]:
                        self.assertTrue(all(a + b in going.crossing for a in stride for b in other))
                for _ in range(4):
                    name = some_way(dice, found.kinds, 5)
                    powers = tuple(dice.randrange(-4, 5) for _ in found.strides)
                    way = name + "".join((stride if power > 0 else stride[::-1]) * abs(power) for stride, power in zip(found.strides, powers))
                    n = Motion(going.plan, found.room.name + way + found.room.name[::-1])
                    self.assertEqual(n * motion, motion * n)
                    self.assertIs(n in found, True)
                    self.assertEqual(found.parts(n), (going.name(name), powers))

    def test_any_value(self):
        found = along(Motion(D, "ab"))
        for value in NO_STRINGS + ["", "ab", Room(D, "ab"), found, Motion(P, "ab"), Motion(L, "ab"), Motion(D, "ab", "bac"), Motion(D, "ba", "bac")]:
            self.assertIs(value in found, False)
            self.assertIsNone(found.parts(value))
        self.assertIs(Motion(Plan("bac", ["cb", "ca"]), "ab") in found, True)
        whole = along(Motion(Q))
        self.assertEqual((whole.kinds, whole.strides), ("abcd", ()))
        self.assertIs(Motion(Q, "", "badc") in whole, False)
        self.assertIs(Motion(Q, "acbd") in whole, True)


class RootsTest(unittest.TestCase):

    def test_against_all_shifts_near_home(self):
        dice = Random(3)
        seen = set()
        for going in goings(5):
            far = 4 if len(going.kinds) < 4 else 3
            ball = going.ball(far)
            for motion in some_shifts(dice, going, 2, 3):
                for n in (1, 2, 3, 4):
                    one, many = roots(motion, n)
                    near = [name for name in ball if going.name(name * n) == motion.home.name]
                    seen.add((n, many))
                    if one is None:
                        self.assertEqual((many, near), (0, []))
                        continue
                    self.assertEqual((one.power(n), one.renaming), (motion, going.kinds))
                    self.assertTrue(many is None or type(many) is int and many >= max(1, len(near)))
                    if many is not None and len(motion.home) < 2 and len(going.kinds) <= far:
                        self.assertEqual(many, len(near))
        self.assertTrue({(1, 1), (2, 0), (2, None), (2, 1), (2, 2), (2, 4), (3, 0), (3, 1), (4, 8)} <= seen)

    def test_many_roots(self):
        plan = Plan("ab") * Plan("cde", ["cd", "de", "ce"])
        self.assertEqual(roots(Motion(plan, "abab"), 2)[1], 8)
        self.assertEqual(roots(Motion(plan, "abab"), n=1), (Motion(plan, "abab"), 1))
        self.assertEqual(roots(Motion(plan, "ababc"), 2), (None, 0))
        self.assertEqual(roots(Motion(plan, "abababc"), 3), (Motion(plan, "abc"), 1))
        self.assertEqual(roots(Motion(plan, "cde"), 5), (Motion(plan, "cde"), 1))
        self.assertEqual(roots(Motion(plan, "ab"), 10 ** 30), (None, 0))
        self.assertEqual(roots(Motion(plan), 10 ** 30)[1], None)
        self.assertEqual(roots(Motion(Plan("ab", ["ab"])), 2)[1], 4)

    def test_roots_beside_single_letters(self):
        # With c beside, only odd powers can be taken.
        for many, odd in ((1, 1), (2, 1), (3, 3), (6, 3), (8, 1), (11, 11)):
            for start in ("", "c", "a"):
                shift, wanted = [Motion(D, start + "ab" * exponent + "c" + start[::-1]) for exponent in (many, many // odd)]
                self.assertEqual(root(shift), (wanted, odd))

    def test_greatest_root(self):
        dice = Random(4)
        greatest = set()
        for going in goings():
            for motion in some_shifts(dice, going, 4, 4):
                if motion.stands:
                    self.assertIs(caught(Stands, lambda: root(motion)).motion, motion)
                    continue
                one, n = root(motion)
                greatest.add(n)
                self.assertEqual((one.power(n), one.renaming, type(n)), (motion, going.kinds, int))
                for more in range(n + 1, 25):
                    self.assertIsNone(roots(motion, more)[0])
        self.assertTrue({1, 2, 3, 4, 6} <= greatest)

    def test_same_powers(self):
        dice = Random(5)
        pairs = 0
        for going in goings():
            for motion in some_shifts(dice, going, 4, 3):
                if motion.stands:
                    continue
                found = along(motion)
                more = some_way(dice, found.kinds, 1)
                first = Motion(going.plan, found.room.name + more + "".join(found.strides) * dice.choice([1, 2, 3]) + found.room.name[::-1])
                for one, other in ((first, motion), (motion, first), (motion, ~motion)):
                    pairs += self.check_pair(one, other)
        self.assertGreater(pairs, 200)

    def check_pair(self, first, second):
        found = same_powers(first, second)
        if first.stands:
            return 0
        reach = range(1, 2 * second.speed + 1)
        strange = [second.power(number) for number in range(-2 * first.speed, 2 * first.speed + 1)]
        wanted = [(i, at - 2 * first.speed) for i in reach for at, power in enumerate(strange) if first.power(i) == power]
        self.assertEqual(found, wanted[0] if wanted else None)
        return found is not None

    def test_longest_ways(self):
        plan = Plan.ring("abcdefgh")
        motion = Motion(plan, "acegbdfh" * 3)
        one, n = root(motion)
        self.assertEqual((one, n), (Motion(plan, "acegbdfh"), 3))
        self.assertEqual(same_powers(motion, Motion(plan, "acegbdfh" * 2)), (2, 3))
        self.assertEqual(same_powers(motion, ~Motion(plan, "acegbdfh" * 2)), (2, -3))
        self.assertIsNone(same_powers(motion, Motion(plan, "acegbfdh" * 3)))


class ErrorsTest(unittest.TestCase):

    def test_renamed(self):
        turned, shift = Motion(L, "a", "ba"), Motion(L, "ab")
        standing = Motion(L, "", "ba")
        for deed in (lambda: root(standing), lambda: same_powers(standing, shift), lambda: same_powers(Motion(L), standing)):
            self.assertIs(caught(Renamed, deed).motion, standing)
        for deed in (lambda: along(turned), lambda: roots(turned, 0), lambda: root(turned), lambda: same_powers(turned, shift),
                     lambda: same_powers(shift, turned), lambda: same_powers(turned, Motion(P, "a", "cba")),
                     lambda: same_powers(Motion(L), turned)):
            self.assertIs(caught(Renamed, deed).motion, turned)
        self.assertEqual(caught(Renamed, lambda: same_powers(Motion(P), turned)).motion, turned)

    def test_other_plan_and_standing(self):
        caught(OtherPlan, lambda: same_powers(Motion(P), Motion(D)))
        for standing in (Motion(L), Motion(L, "aba")):
            self.assertIs(caught(Stands, lambda: root(standing)).motion, standing)
            self.assertIs(caught(Stands, lambda: same_powers(standing, Motion(L, "ab"))).motion, standing)
            self.assertIs(caught(Stands, lambda: same_powers(Motion(L, "ab"), standing)).motion, standing)
            self.assertIs(caught(Stands, lambda: same_powers(standing, Motion(L, "b"))).motion, standing)

    def test_exponents(self):
        for value in NO_STRINGS + ["", "1", 0, -1]:
            if type(value) is not int or value < 1:
                self.assertIs(caught(InvalidTimes, lambda: roots(Motion(L, "abab"), value)).value, value)


if __name__ == "__main__":
    unittest.main()
