"""[34]: sets of ints that come again by a period."""

import unittest
from random import Random

from crosswalls.errors import InvalidTimes
from crosswalls.gaits import When
from tests.examples import NO_STRINGS, caught

LOW, HIGH = -90, 90
WINDOW = range(LOW, HIGH)
NONE, ALL = When.rests(1, []), When.rests(1, [0])


def members(times):
    return {number for number in WINDOW if number in times}


def some_times(dice):
    """A When, and the set of its members in the window."""
    pick = dice.randrange(3)
    if pick == 0:
        number = dice.randrange(-20, 20)
        return When.single(number), {number}
    if pick == 1:
        number = dice.randrange(-20, 20)
        return When.since(number), {n for n in WINDOW if n >= number}
    period = dice.choice([1, 2, 3, 4, 6, 8])
    rests = [rest for rest in range(period) if dice.random() < 0.4]
    return When.rests(period, rests), {n for n in WINDOW if n % period in rests}


def mixed_times(dice, steps):
    """A When that comes of several, and the set of its members in the window."""
    times, wanted = some_times(dice)
    for _ in range(steps):
        other, its_wanted = some_times(dice)
        pick = dice.randrange(5)
        if pick == 0:
            times, wanted = times & other, wanted & its_wanted
        elif pick == 1:
            times, wanted = times | other, wanted | its_wanted
        elif pick == 2:
            times, wanted = times - other, wanted - its_wanted
        elif pick == 3:
            times, wanted = times ^ other, wanted ^ its_wanted
        else:
            times, wanted = ~times, set(WINDOW) - wanted
    return times, wanted


class MakingTest(unittest.TestCase):

    def test_kinds(self):
        self.assertEqual(members(When.single(3)), {3})
        self.assertEqual(members(When.single(n=-3)), {-3})
        self.assertEqual(members(When.since(n=-3)), set(range(-3, HIGH)))
        self.assertEqual(members(When.rests(period=5, rests=(1, 4, 1))), {n for n in WINDOW if n % 5 in (1, 4)})
        self.assertEqual(members(When.rests(5, [])), set())
        far = 10 ** 300
        self.assertEqual([number in When.single(far) for number in (far - 1, far, far + 1)], [False, True, False])
        self.assertEqual([number in When.since(-far) for number in (-far - 1, -far, far)], [False, True, True])
        self.assertIs(far in When.rests(7, [far % 7]), True)

    def test_wrong_values(self):
        for value in NO_STRINGS + ["", "1", -1, 0]:
            if type(value) is not int or value < 1:
                self.assertIs(caught(InvalidTimes, lambda: When.rests(value, [9])).value, value)
        for value in NO_STRINGS + ["", "1", -1, 5, 10 ** 40]:
            if type(value) is int and 0 <= value < 5:
                continue
            for rests in ([value], [0, 4, value, 7], (3, value)):
                self.assertIs(caught(InvalidTimes, lambda: When.rests(5, rests)).value, value)
        self.assertEqual(caught(InvalidTimes, lambda: When.rests(0, [-1])).value, 0)
        self.assertEqual(caught(InvalidTimes, lambda: When.rests(3, [2, 3, -1])).value, 3)
        self.assertIs(caught(InvalidTimes, lambda: When.rests(3, [2, True, -1])).value, True)

    def test_in_with_any_value(self):
        for value in NO_STRINGS + ["", "0", ALL]:
            if type(value) is not int:
                self.assertIs(value in ALL, False)
                self.assertIs(value in NONE, False)
        self.assertIs(0 in ALL, True)
        self.assertIs(10 ** 5000 in ALL, True)


class MixedTest(unittest.TestCase):

    def test_members(self):
        dice = Random(1)
        for _ in range(400):
            times, wanted = mixed_times(dice, dice.randrange(6))
            self.assertEqual(members(times), wanted)

    def test_operators_change_nothing(self):
        one, other = When.rests(4, [1]), When.since(3)
        for _ in range(2):
            self.assertEqual(members(one & other), {n for n in WINDOW if n % 4 == 1 and n >= 3})
            self.assertEqual(members(one | other), {n for n in WINDOW if n % 4 == 1 or n >= 3})
            self.assertEqual(members(one - other), {n for n in WINDOW if n % 4 == 1 and n < 3})
            self.assertEqual(members(one ^ other), {n for n in WINDOW if (n % 4 == 1) != (n >= 3)})
            self.assertEqual(members(~one), {n for n in WINDOW if n % 4 != 1})

    def test_other_values(self):
        for value in NO_STRINGS + ["a"]:
            for deed in (lambda: ALL & value, lambda: ALL | value, lambda: ALL - value, lambda: ALL ^ value, lambda: ALL <= value):
                with self.assertRaises(TypeError):
                    deed()
            self.assertIs(ALL == value, False)
            self.assertIs(ALL != value, True)

    def test_equal_and_part_of(self):
        self.assertEqual(When.rests(4, [0, 2]), When.rests(2, [0]))
        self.assertEqual(When.since(3) - When.since(4), When.single(3))
        self.assertEqual(When.single(5) & When.single(6), NONE)
        self.assertNotEqual(When.since(10 ** 30), When.since(10 ** 30 + 1))
        self.assertIs(When.since(10 ** 30 + 1) <= When.since(10 ** 30), True)
        self.assertIs(When.since(10 ** 30) <= When.since(10 ** 30 + 1), False)
        dice = Random(2)
        found = [mixed_times(dice, 3) for _ in range(60)]
        for one, wanted in found:
            for other, its_wanted in found:
                # All that is mixed here goes on by 24 from a long way within the window.
                self.assertIs(one == other, wanted == its_wanted)
                self.assertIs(one != other, wanted != its_wanted)
                self.assertIs(one <= other, wanted <= its_wanted)

    def test_truth_and_finite(self):
        dice = Random(3)
        for _ in range(200):
            times, wanted = mixed_times(dice, 3)
            self.assertIs(bool(times), wanted != set())
            self.assertIs(times.is_finite, not any(abs(n) > 50 for n in wanted))
        self.assertIs(bool(When.rests(5, [1]) & When.single(10 ** 30)), False)
        self.assertIs(bool(When.rests(5, [0]) & When.single(10 ** 30)), True)

    def test_earliest_and_latest(self):
        dice = Random(4)
        for _ in range(300):
            times, wanted = mixed_times(dice, 4)
            for number in (dice.randrange(-40, 40), -30, 0, 30):
                self.assertEqual(times.earliest(number), min((n for n in wanted if n >= number), default=None))
                self.assertEqual(times.latest(n=number), max((n for n in wanted if n <= number), default=None))

    def test_far_off(self):
        far = 10 ** 60
        times = When.rests(7, [2, 5]) & When.since(-far) - When.since(far)
        self.assertIs(times.is_finite, True)
        first = next(n for n in range(-far, -far + 7) if n % 7 in (2, 5))
        last = next(n for n in range(far - 1, far - 8, -1) if n % 7 in (2, 5))
        self.assertEqual((times.earliest(-far * far), times.latest(far * far)), (first, last))
        self.assertEqual((times.earliest(far), times.latest(-far - 1), times.earliest(last + 1), times.latest(first - 1)), (None,) * 4)
        self.assertEqual(times.count(-far * far, far * far), sum(1 for n in range(first, first + 7) if n % 7 in (2, 5)) * ((last - first) // 7) + 1
                         + sum(1 for n in range(first + (last - first) // 7 * 7 + 1, last + 1) if n % 7 in (2, 5)))
        self.assertEqual(When.since(-far).count(-far - 5, far), 2 * far)
        self.assertEqual((When.rests(5000, [4999]).earliest(far * 5000), NONE.earliest(-far)), (far * 5000 + 4999, None))

    def test_count(self):
        dice = Random(5)
        for _ in range(300):
            times, wanted = mixed_times(dice, 4)
            start, stop = dice.randrange(-60, 60), dice.randrange(-60, 60)
            self.assertEqual(times.count(start, stop), len([n for n in wanted if start <= n < stop]))
        self.assertEqual(ALL.count(start=3, stop=3), 0)
        self.assertEqual(ALL.count(3, -10 ** 30), 0)

    def test_long_periods(self):
        one, other = When.rests(71, list(range(0, 71, 3))), When.rests(70, list(range(0, 70, 7)))
        both = one & other
        wanted = [n for n in range(-100, 5100) if n % 71 % 3 == 0 and n % 70 % 7 == 0]
        self.assertEqual([n for n in range(-100, 5100) if n in both], wanted)
        self.assertEqual((both | ~both, both & ~both), (ALL, NONE))


if __name__ == "__main__":
    unittest.main()
