"""[3], [4], [22], with [2] and [53] as far as they speak of rooms."""

import inspect
import unittest
from random import Random

from crosswalls.errors import InvalidKind, InvalidWay, OtherPlan, TooLong
from crosswalls.plans import Plan
from crosswalls.rooms import Room, is_name
from tests.examples import D, L, NO_KINDS, NO_STRINGS, P, Q, all_pairs, all_plans, caught
from tests.reckoning import least_words, name_by_roots, words


def some_plans(dice):
    """Plans of 1 to 8 kinds in which few, some and most pairs cross."""
    for many in range(1, 9):
        kinds = "".join(sorted(dice.sample("abcdefghijklmnopqrstuvwxyz", many)))
        for share in (0, 20, 50, 80, 100):
            yield Plan(kinds, [pair for pair in all_pairs(kinds) if dice.randrange(100) < share])


def some_way(dice, plan, length):
    return "".join(dice.choice(plan.kinds) for _ in range(length))


def rooms_up_to(plan, longest):
    """All rooms at most so far from home, ascending."""
    least = least_words(plan.kinds, plan.pairs, longest)
    return [Room(plan, name) for name in sorted(set(least.values()), key=lambda name: (len(name), name))]


class NameTest(unittest.TestCase):

    def test_examples(self):
        self.assertEqual(Room(P, "cab").name, "bca")
        self.assertEqual(Room(P, "aba").name, "b")
        plan = Plan("abc", ["ab"])
        self.assertEqual(Room(plan, "abab").name, "")
        self.assertEqual(Room(plan, "bca").name, "bca")
        self.assertEqual((Room(plan, "cab").name, Room(plan, "cba").name), ("cab", "cab"))

    def test_home(self):
        for plan in (P, Q, D, L, Plan("")):
            for home in (Room(plan), Room(plan, ""), Room(plan=plan), Room(way="", plan=plan)):
                self.assertEqual((home.plan, home.name), (plan, ""))

    def test_by_position_and_by_name(self):
        for room in (Room(P, "cab"), Room(plan=P, way="cab"), Room(P, way="cab")):
            self.assertEqual(room.name, "bca")
            self.assertEqual(room.plan, P)
            self.assertIs(type(room.name), str)

    def check_all(self, plan, longest):
        for way, name in least_words(plan.kinds, plan.pairs, longest).items():
            self.assertEqual(Room(plan, way).name, name)
            self.assertIs(is_name(plan, way), way == name)

    def test_all_short_ways_of_plans_of_up_to_three_kinds(self):
        for kinds in ("", "q", "xy", "acz"):
            for plan in all_plans(kinds):
                self.check_all(plan, 7)

    def test_all_short_ways_of_plans_of_four_kinds(self):
        for plan in all_plans("abcd"):
            self.check_all(plan, 5)

    def test_all_short_ways_of_larger_plans(self):
        for plan in (Q, Plan.ring("acebd"), Plan("abcde", ["ad", "ae", "bd", "be", "cd"]), Plan("ab") * Plan("cd")):
            self.check_all(plan, 6)

    def test_the_two_second_reckonings_agree(self):
        for plan in all_plans("abcd"):
            for way, name in least_words(plan.kinds, plan.pairs, 4).items():
                self.assertEqual(name_by_roots(plan.kinds, plan.pairs, way), name)

    def test_longer_ways_of_plans_of_up_to_eight_kinds(self):
        dice = Random(4)
        for plan in some_plans(dice):
            for length in (9, 30, 90):
                way = some_way(dice, plan, length)
                name = name_by_roots(plan.kinds, plan.pairs, way)
                self.assertEqual(Room(plan, way).name, name)
                self.assertEqual(Room(plan, name).name, name)
                self.assertIs(is_name(plan, name), True)
                self.assertIs(is_name(plan, way), way == name)

    def test_parts_of_names_are_names(self):
        dice = Random(5)
        for plan in some_plans(dice):
            name = Room(plan, some_way(dice, plan, 25)).name
            for start in range(len(name) + 1):
                for stop in range(start, len(name) + 1):
                    self.assertEqual(Room(plan, name[start:stop]).name, name[start:stop])
                    self.assertIs(is_name(plan, name[start:stop]), True)

    def test_a_finite_floor(self):
        plan = Plan("abcdefgh", all_pairs("abcdefgh"))
        self.assertEqual(Room(plan, "hgfedcba").name, "abcdefgh")
        self.assertEqual(Room(plan, "hgfhedgcba" * 200).name, "")
        self.assertEqual(Room(plan, "hgfhedgcba" * 199).name, "abcdef")


class LongWayTest(unittest.TestCase):

    def test_1999_and_2000_letters(self):
        for length in (1999, 2000):
            way = ("ab" * 1000)[:length]
            self.assertEqual(Room(L, way).name, way)
            self.assertEqual(len(Room(L, way)), length)
            self.assertEqual(Room(L, "a" * length).name, "a" * (length % 2))

    def test_more_letters(self):
        for length in (2001, 2002, 5000, 100000):
            for way in (("ab" * length)[:length], "a" * length):
                self.assertEqual(caught(TooLong, lambda: Room(L, way)).length, length)
                self.assertEqual(caught(TooLong, lambda: Room(L) + way).length, length)

    def test_2000_letters_of_eight_kinds(self):
        ring = Plan.ring("abcdefgh")
        for plan in (
            Plan("abcdefgh"), ring, Plan("abcd") * Plan("efgh"), Plan("ah") * Plan("bg") * Plan("cf") * Plan("de"),
        ):
            for way in ("abcdefgh" * 250, "abcd" * 250 + "efgh" * 250, "efgh" * 250 + "abcd" * 250):
                self.assertEqual(Room(plan, way).name, name_by_roots(plan.kinds, plan.pairs, way))

    def test_eight_kinds_in_an_order_far_from_the_name(self):
        plan = Plan("abcd") * Plan("efgh")
        self.assertEqual(Room(plan, "fe" * 500 + "ab" * 500).name, "ab" * 500 + "fe" * 500)
        self.assertEqual(Room(plan, "fa" + "eb" * 500).name, "af")
        self.assertEqual(Room(plan, "hd" * 1000).name, "")


class WrongWayTest(unittest.TestCase):

    def deeds(self, plan, value):
        return [lambda: Room(plan, value), lambda: Room(plan) + value, lambda: Room(plan, plan.kinds) + value]

    def test_no_strings(self):
        for value in NO_STRINGS:
            for deed in self.deeds(P, value):
                self.assertEqual(caught(InvalidWay, deed).index, 0)

    def test_first_wrong_index(self):
        cases = [("d", 0), ("abd", 2), ("ab-c", 2), ("abC", 2), (" abc", 0), ("abc ", 3), ("a\nxb", 1), ("acb\u00e4z", 3)]
        for way, index in cases:
            for deed in self.deeds(P, way):
                self.assertEqual(caught(InvalidWay, deed).index, index)

    def test_a_plan_without_kinds(self):
        for way in ("a", " ", "\n", "  a"):
            for deed in self.deeds(Plan(""), way):
                self.assertEqual(caught(InvalidWay, deed).index, 0)

    def test_ahead_of_too_long(self):
        for index in (0, 1999, 2000, 2500, 2999):
            way = "a" * index + "x" + "z" * (2999 - index)
            for deed in self.deeds(P, way):
                self.assertEqual(caught(InvalidWay, deed).index, index)


class DoorTest(unittest.TestCase):

    def test_example(self):
        self.assertEqual(Room(P, "bca")["b"].name, "ca")

    def test_each_door_of_many_rooms(self):
        for plan in (P, Q, D, L, Plan.ring("abcde")):
            least = least_words(plan.kinds, plan.pairs, 5)
            for name in [name for name in set(least.values()) if len(name) < 5]:
                for kind in plan.kinds:
                    room = Room(plan, name)[kind]
                    self.assertEqual((room.plan, room.name), (plan, least[name + kind]))

    def test_there_and_back(self):
        for plan in (P, Q, Plan.ring("abcde")):
            for room in rooms_up_to(plan, 4):
                for kind in plan.kinds:
                    self.assertEqual(room[kind][kind], room)
                for one, other in plan.pairs:
                    self.assertEqual(room[one][other], room[other][one])

    def test_wrong_kinds(self):
        for value in NO_STRINGS + NO_KINDS + ["d", "x"]:
            self.assertIs(caught(InvalidKind, lambda: Room(P, "ab")[value]).value, value)
        self.assertEqual(caught(InvalidKind, lambda: Room(Plan(""))[""]).value, "")

    def test_a_long_name_gets_longer(self):
        room = Room(L, "ab" * 1000)
        self.assertEqual(caught(TooLong, lambda: room["a"]).length, 2001)
        self.assertEqual(len(room["b"]), 1999)
        self.assertEqual(len(room["b"]["b"]), 2000)
        self.assertEqual(caught(InvalidKind, lambda: room["c"]).value, "c")
        self.assertEqual(room.name, "ab" * 1000)


class LedOnTest(unittest.TestCase):

    def test_example(self):
        self.assertEqual((Room(P, "bca") + "ac").name, "b")

    def test_short_ways(self):
        for plan in (P, Q, D, L):
            least = least_words(plan.kinds, plan.pairs, 6)
            for name in [name for name in set(least.values()) if len(name) <= 3]:
                room = Room(plan, name)
                for way in words(plan.kinds, 3):
                    self.assertEqual((room + way).name, least[name + way])
                self.assertEqual(room.name, name)

    def test_longer_ways(self):
        dice = Random(7)
        for plan in some_plans(dice):
            first, second = some_way(dice, plan, 40), some_way(dice, plan, 40)
            led = Room(plan, first) + second
            self.assertEqual(led, Room(plan, first + second))
            self.assertEqual(led.name, name_by_roots(plan.kinds, plan.pairs, first + second))
            self.assertEqual(led + second[::-1], Room(plan, first))

    def test_names_of_just_2000_letters(self):
        self.assertEqual((Room(L, "ab" * 500) + "ab" * 500).name, "ab" * 1000)
        self.assertEqual((Room(L, "ab" * 1000) + "ba" * 1000).name, "")
        self.assertEqual((Room(L, "ab" * 1000) + "").name, "ab" * 1000)
        # The name has more letters on the way, but not at the end of it.
        self.assertEqual((Room(L, "ab" * 1000) + "abba").name, "ab" * 1000)
        self.assertEqual((Room(D, "ab" * 999 + "ac") + "bbacab").name, "ab" * 1000)

    def test_longer_names(self):
        room = Room(L, "ab" * 1000)
        for way, length in (("a", 2001), ("ab", 2002), ("baababa", 2003), ("ab" * 1000, 4000)):
            self.assertEqual(caught(TooLong, lambda: room + way).length, length)
        self.assertEqual(caught(TooLong, lambda: Room(L, "ba" * 999) + "ba" * 1000).length, 3998)
        self.assertEqual(caught(TooLong, lambda: Room(D, "ab" * 1000) + "cac").length, 2001)
        self.assertEqual(caught(TooLong, lambda: Room(D, "ab" * 1000) + "c").length, 2001)
        self.assertEqual(room.name, "ab" * 1000)

    def test_a_way_that_is_too_long_comes_first(self):
        self.assertEqual(caught(TooLong, lambda: Room(L, "ab" * 1000) + "ab" * 1500).length, 3000)
        self.assertEqual(caught(TooLong, lambda: Room(L, "ab" * 1000) + "ba" * 1001).length, 2002)
        self.assertEqual(caught(InvalidWay, lambda: Room(L, "ab" * 1000) + "ac").index, 1)


class WayTest(unittest.TestCase):

    def test_examples(self):
        self.assertEqual(Room(P, "ca").way_to(Room(P, "b")), "abc")
        self.assertEqual(Room(P, "ca").way_to(other=Room(P, "b")), "abc")
        self.assertEqual(Room(P, "ca").distance(other=Room(P, "b")), 3)

    def test_the_least_of_all_ways(self):
        for plan in (P, Q, D, L, Plan("abc", ["ac"])):
            least = least_words(plan.kinds, plan.pairs, 6)
            names = [name for name in set(least.values()) if len(name) <= 3]
            for one in names:
                ways = {}
                for way in words(plan.kinds, 6 - len(one)):
                    ways.setdefault(least[one + way], way)
                for other in names:
                    if other in ways:
                        self.check(Room(plan, one), Room(plan, other), ways[other])

    def check(self, one, other, way):
        self.assertEqual(one.way_to(other), way)
        self.assertEqual(one.distance(other), len(way))
        self.assertEqual(other.distance(one), len(way))
        self.assertEqual(one + way, other)
        self.assertIs(is_name(one.plan, way), True)

    def test_distant_rooms(self):
        dice = Random(9)
        for plan in some_plans(dice):
            one, other = Room(plan, some_way(dice, plan, 60)), Room(plan, some_way(dice, plan, 60))
            self.check(one, other, name_by_roots(plan.kinds, plan.pairs, one.name[::-1] + other.name))

    def test_home_and_the_room_itself(self):
        for room in rooms_up_to(Q, 4):
            self.check(Room(Q), room, room.name)
            self.check(room, room, "")
        for length in (1999, 2000):
            room = Room(L, ("ab" * 1000)[:length])
            self.check(Room(L), room, room.name)
            self.assertEqual(len(room), length)

    def test_equal_plans_made_apart(self):
        self.check(Room(P, "ca"), Room(Plan("cba", ("cb", "ba")), "b"), "abc")

    def test_other_plans(self):
        for other in (Room(Q, "a"), Room(D, "a"), Room(L), Room(Plan(""))):
            caught(OtherPlan, lambda: Room(P, "a").way_to(other))
            caught(OtherPlan, lambda: Room(P, "a").distance(other))
            caught(OtherPlan, lambda: other.distance(Room(P, "a")))


class NearerTest(unittest.TestCase):

    def test_examples(self):
        self.assertEqual(Room(P, "bca").nearer(), "ab")
        self.assertEqual(Room(P).nearer(), "")
        self.assertEqual(Room(Plan("")).nearer(), "")

    def test_against_the_doors(self):
        for plan in (P, Q, D, L, Plan.ring("abcde"), Plan("abcd", all_pairs("abcd"))):
            least = least_words(plan.kinds, plan.pairs, 5)
            for name in [name for name in set(least.values()) if len(name) < 5]:
                nearer = "".join(kind for kind in plan.kinds if len(least[name + kind]) < len(name))
                self.assertEqual(Room(plan, name).nearer(), nearer)

    def test_eight_kinds_far_away(self):
        plan = Plan("ah") * Plan("bg") * Plan("cf") * Plan("de")
        self.assertEqual(Room(plan, "ah" * 200 + "gb" * 200 + "cf" * 200 + "de" * 200).nearer(), "befh")
        self.assertEqual(Room(plan, "ha" * 400 + "c").nearer(), "ac")


class OrderTest(unittest.TestCase):

    def test_example(self):
        self.assertIs(Room(P, "c") < Room(P, "ab"), True)

    def test_all_rooms_nearby(self):
        plan = Plan.ring("abcde")
        again = Plan("edcba", plan.pairs[::-1])
        rooms = rooms_up_to(plan, 3)
        for at, one in enumerate(rooms):
            for other_at, other in enumerate(rooms):
                self.check(one, Room(again, other.name), at, other_at)

    def check(self, one, other, at, other_at):
        self.assertIs(one == other, at == other_at)
        self.assertIs(one != other, at != other_at)
        self.assertIs(one < other, at < other_at)
        self.assertIs(one <= other, at <= other_at)
        self.assertIs(one > other, at > other_at)
        self.assertIs(one >= other, at >= other_at)

    def test_other_plans(self):
        for name in ("", "a"):
            for other in (Room(Q, name), Room(D, name), Room(Plan("abc", ["ab"]), name)):
                one = Room(P, name)
                self.assertIs(one == other, False)
                self.assertIs(one != other, True)
                for deed in (
                    lambda: one < other, lambda: one <= other, lambda: one > other, lambda: one >= other,
                    lambda: other < one, lambda: other <= one, lambda: other > one, lambda: other >= one,
                ):
                    caught(OtherPlan, deed)

    def test_objects_of_other_classes(self):
        for value in NO_STRINGS + ["", "a", (P, "a"), Plan("a")]:
            if not isinstance(value, Room):
                self.assertIs(Room(P, "a") == value, False)
                self.assertIs(value == Room(P, "a"), False)
                self.assertIs(Room(P, "a") != value, True)

    def test_len(self):
        for room in rooms_up_to(Q, 4):
            self.assertEqual(len(room), len(room.name))


class IsNameTest(unittest.TestCase):

    def test_examples(self):
        self.assertIs(is_name(P, "cab"), False)
        self.assertIs(is_name(P, "bca"), True)
        self.assertIs(is_name(P, ""), True)
        self.assertIs(is_name(value="", plan=Plan("")), True)

    def test_any_value(self):
        for value in NO_STRINGS + ["x", "ax", "xa", "A", "a ", "\u00e4", "a\n", "\n"]:
            self.assertIs(is_name(P, value), False)
            self.assertIs(is_name(Plan(""), value), False)

    def test_long_strings(self):
        for many in (1000, 1001, 30000):
            self.assertIs(is_name(L, "ab" * many), True)
            self.assertIs(is_name(L, "ab" * many + "b"), False)
            self.assertIs(is_name(L, "b" + "ba" * many), False)
            self.assertIs(is_name(L, "ab" * many + "c"), False)
            self.assertIs(is_name(D, "ab" * many + "c"), True)
            self.assertIs(is_name(D, "c" + "ab" * many), False)
            self.assertIs(is_name(P, "ab" + "ca" * many), True)
            self.assertIs(is_name(P, "ab" + "ca" * many + "b"), False)
            self.assertIs(is_name(P, "b" + "ac" * many), False)
            self.assertIs(is_name(P, "ac" * many + "b"), False)
            self.assertIs(is_name(Plan("abc", ["ac"]), "ca" + "bc" * many), False)

    def test_the_rooms_of_eight_kinds(self):
        plan = Plan("abcd") * Plan("efgh")
        self.assertIs(is_name(plan, "abcd" * 1000 + "hgfe" * 1000), True)
        self.assertIs(is_name(plan, "abcd" * 1000 + "hgfe" * 1000 + "a"), False)
        self.assertIs(is_name(plan, "abcd" * 1000 + "hgfe" * 1000 + "d"), False)


class InterfaceTest(unittest.TestCase):

    def test_listed_methods_are_defined_in_the_class(self):
        for name in ("__init__", "__len__", "__getitem__", "__add__", "way_to", "distance", "nearer",
                     "__eq__", "__lt__", "__le__", "__gt__", "__ge__"):
            self.assertIn(name, vars(Room))
        self.assertEqual((Room.__module__, is_name.__module__), ("crosswalls.rooms", "crosswalls.rooms"))
        self.assertEqual(list(inspect.signature(Room).parameters), ["plan", "way"])
        self.assertEqual(list(inspect.signature(is_name).parameters), ["plan", "value"])


if __name__ == "__main__":
    unittest.main()
