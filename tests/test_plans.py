"""[21], with [2], [13] and [53] as far as they speak of plans."""

import inspect
import unittest
from itertools import combinations, permutations, product

from crosswalls.errors import InvalidKind, InvalidPlan, SameKind, TooMany
from crosswalls.plans import Plan
from crosswalls.rooms import Room
from tests.examples import D, L, NO_KINDS, NO_STRINGS, P, Q, all_pairs, all_plans, caught

# Values of crossing that are no pair of kinds of "abc".
NO_PAIRS = ["", "a", "aa", "abc", "ad", "da", "dd", "AB", "a ", "a-", "ab ", "\u00e4b"]


class MakingTest(unittest.TestCase):

    def check(self, plan, kinds, pairs):
        self.assertEqual(plan.kinds, kinds)
        self.assertEqual(plan.pairs, pairs)
        self.assertIs(type(plan.kinds), str)
        self.assertIs(type(plan.pairs), tuple)

    def test_examples(self):
        self.assertEqual(Plan("ba", ["ba"]).pairs, ("ab",))
        self.check(P, "abc", ("ab", "bc"))
        self.check(Q, "abcd", ("ab", "ad", "bc", "cd"))
        self.check(D, "abc", ("ac", "bc"))
        self.check(L, "ab", ())

    def test_kinds_and_pairs_in_any_order(self):
        for kinds in permutations("azmk"):
            for pairs in permutations(["za", "am", "kz"]):
                self.check(Plan("".join(kinds), list(pairs)), "akmz", ("am", "az", "kz"))

    def test_pairs_twice_and_turned_about(self):
        self.check(Plan("cab", ["ba", "ab", "cb", "ba", "bc", "ab"]), "abc", ("ab", "bc"))

    def test_list_or_tuple_by_position_or_by_name(self):
        for plan in (
            Plan("abc", ("ab", "bc")),
            Plan("abc", crossing=["ab", "bc"]),
            Plan(kinds="abc", crossing=("bc", "ab")),
            Plan(crossing=["cb", "ab"], kinds="bac"),
        ):
            self.assertEqual(plan, P)
        self.check(Plan("ba"), "ab", ())
        self.check(Plan(kinds="ba"), "ab", ())

    def test_no_kinds_and_eight(self):
        self.check(Plan(""), "", ())
        self.check(Plan("", []), "", ())
        self.check(Plan("z"), "z", ())
        self.check(Plan("hgfedcba", all_pairs("abcdefgh")), "abcdefgh", tuple(all_pairs("abcdefgh")))

    def test_what_is_passed_is_copied_and_not_changed(self):
        crossing = ["cb", "ab", "ba"]
        plan = Plan("abc", crossing)
        self.assertEqual(crossing, ["cb", "ab", "ba"])
        crossing.append("ac")
        crossing[0] = "ca"
        self.check(plan, "abc", ("ab", "bc"))
        self.assertFalse(plan.crosses("a", "c"))
        self.assertTrue(plan.crosses("b", "c"))
        self.assertEqual(plan.parts(), ("ac", "b"))

    def test_listed_methods_are_defined_in_the_class(self):
        for name in ("__init__", "__eq__", "crosses", "__add__", "__mul__", "ring", "is_finite", "parts", "renamings"):
            self.assertIn(name, vars(Plan))
        self.assertEqual(Plan.__module__, "crosswalls.plans")
        self.assertEqual(list(inspect.signature(Plan).parameters), ["kinds", "crossing"])


class WrongPlanTest(unittest.TestCase):

    def test_kinds(self):
        for value in NO_STRINGS + ["aa", "aba", "A", "aB", "a b", "a1", "\u00e4", "ab\n", "a" * 3000, "abcdefghijj"]:
            self.assertIs(caught(InvalidPlan, lambda: Plan(value)).value, value)

    def test_kinds_come_ahead_of_crossing(self):
        self.assertEqual(caught(InvalidPlan, lambda: Plan("aa", ["xy"])).value, "aa")
        self.assertIs(caught(InvalidPlan, lambda: Plan(None, [None, 3])).value, None)

    def test_entries(self):
        for value in NO_STRINGS + NO_PAIRS:
            for crossing in ([value], (value,), ["ab", value], ["bc", "ba", value, "xy", None]):
                self.assertIs(caught(InvalidPlan, lambda: Plan("abc", crossing)).value, value)

    def test_an_entry_of_a_plan_without_kinds(self):
        self.assertEqual(caught(InvalidPlan, lambda: Plan("", ["ab"])).value, "ab")
        self.assertEqual(caught(InvalidPlan, lambda: Plan("", [""])).value, "")

    def test_too_many_comes_last(self):
        self.assertEqual(caught(TooMany, lambda: Plan("abcdefghi")).most, 8)
        self.assertEqual(caught(TooMany, lambda: Plan("abcdefghi", ["ab", "ih"])).most, 8)
        self.assertEqual(caught(TooMany, lambda: Plan("abcdefghijklmnopqrstuvwxyz")).most, 8)
        self.assertEqual(caught(InvalidPlan, lambda: Plan("abcdefghi", ["ab", "aj"])).value, "aj")
        self.assertEqual(caught(InvalidPlan, lambda: Plan("abcdefghia", [])).value, "abcdefghia")


class EqualTest(unittest.TestCase):

    def test_by_kinds_and_pairs(self):
        plans = list(all_plans("abc")) + list(all_plans("abd")) + list(all_plans("ab")) + [Plan("")]
        for at, one in enumerate(plans):
            for other_at, other in enumerate(plans):
                self.assertIs(one == other, at == other_at)
                self.assertIs(one != other, at != other_at)
            self.assertTrue(one == Plan(one.kinds[::-1], [pair[::-1] for pair in one.pairs]))

    def test_unequal_to_all_else(self):
        for value in NO_STRINGS + ["abc", ("abc", ("ab", "bc"))]:
            if not isinstance(value, Plan):
                self.assertIs(P == value, False)
                self.assertIs(value == P, False)
                self.assertIs(P != value, True)


class CrossesTest(unittest.TestCase):

    def test_all_plans_of_four_kinds(self):
        for plan in all_plans("bdfh"):
            for one, other in product("bdfh", repeat=2):
                self.assertIs(plan.crosses(one, other), one + other in plan.pairs or other + one in plan.pairs)

    def test_by_name(self):
        self.assertIs(P.crosses(a="c", b="b"), True)
        self.assertIs(P.crosses(b="a", a="c"), False)
        self.assertIs(P.crosses("a", b="a"), False)

    def test_wrong_kinds(self):
        for value in NO_STRINGS + NO_KINDS + ["d", "z"]:
            self.assertIs(caught(InvalidKind, lambda: P.crosses(value, "a")).value, value)
            self.assertIs(caught(InvalidKind, lambda: P.crosses("a", value)).value, value)
            self.assertIs(caught(InvalidKind, lambda: P.crosses(value, "x")).value, value)
        self.assertEqual(caught(InvalidKind, lambda: Plan("").crosses("", "")).value, "")


class SumTest(unittest.TestCase):

    def test_sum(self):
        plan = Plan("ca", ["ac"]) + Plan("db", ["bd"])
        self.assertEqual((plan.kinds, plan.pairs), ("abcd", ("ac", "bd")))

    def test_product(self):
        plan = Plan("ca") * Plan("db", ["bd"])
        self.assertEqual((plan.kinds, plan.pairs), ("abcd", ("ab", "ad", "bc", "bd", "cd")))

    def test_all_of_three_and_two_kinds(self):
        for one in all_plans("bxd"):
            for other in all_plans("ac"):
                joints = [own + strange for own in "bxd" for strange in "ac"]
                pairs = list(one.pairs + other.pairs)
                for first, second in ((one, other), (other, one)):
                    self.assertEqual(first + second, Plan("abcdx", pairs))
                    self.assertEqual(first * second, Plan("abcdx", pairs + joints))

    def test_the_plan_without_kinds(self):
        for plan in (P, Q, Plan("")):
            for result in (plan + Plan(""), Plan("") + plan, plan * Plan(""), Plan("") * plan):
                self.assertEqual(result, plan)

    def test_the_plans_stay_as_they_are(self):
        one, other = Plan("ab", ["ab"]), Plan("cd")
        one + other
        one * other
        self.assertEqual((one, other), (Plan("ab", ["ab"]), Plan("cd")))
        self.assertTrue(one.crosses("a", "b"))

    def test_eight_kinds_and_nine(self):
        self.assertEqual(len((Plan("abcd") + Plan("efgh")).kinds), 8)
        self.assertEqual(len((Plan("abcd") * Plan("efgh")).pairs), 16)
        for deed in (lambda: Plan("abcd") + Plan("efghi"), lambda: Plan("abcde") * Plan("fghi")):
            self.assertEqual(caught(TooMany, deed).most, 8)

    def test_same_kind_comes_first(self):
        cases = [("abc", "cb", "b"), ("zk", "akz", "k"), ("abcdef", "fghijk", "f"), ("abcdefgh", "hgfedcba", "a")]
        for one, other, kind in cases:
            self.assertEqual(caught(SameKind, lambda: Plan(one) + Plan(other)).kind, kind)
            self.assertEqual(caught(SameKind, lambda: Plan(one) * Plan(other)).kind, kind)


class RingTest(unittest.TestCase):

    def test_four_to_eight_letters(self):
        self.assertEqual(Plan.ring("abcd"), Plan("abcd", ["ab", "bc", "cd", "da"]))
        self.assertEqual(Plan.ring("acbd"), Plan("abcd", ["ac", "cb", "bd", "da"]))
        self.assertEqual(Plan.ring(kinds="zyxwv").pairs, ("vw", "vz", "wx", "xy", "yz"))
        ring = Plan.ring("abcdefgh")
        self.assertEqual(ring.pairs, ("ab", "ah", "bc", "cd", "de", "ef", "fg", "gh"))
        self.assertEqual(len(Plan.ring("badcfe").pairs), 6)

    def test_wrong_values(self):
        for value in NO_STRINGS + ["", "a", "ab", "abc", "abca", "aabc", "abcdd", "abcA", "abc1", "a bcd", "abcd\n"]:
            self.assertIs(caught(InvalidPlan, lambda: Plan.ring(value)).value, value)
        value = ["a", "b", "c", "d"]
        self.assertIs(caught(InvalidPlan, lambda: Plan.ring(value)).value, value)
        self.assertEqual(caught(InvalidPlan, lambda: Plan.ring("abcdefghia")).value, "abcdefghia")

    def test_too_many(self):
        self.assertEqual(caught(TooMany, lambda: Plan.ring("abcdefghi")).most, 8)
        self.assertEqual(caught(TooMany, lambda: Plan.ring(kinds="zyxwvutsrqponm")).most, 8)

    def test_it_is_static(self):
        self.assertIsInstance(vars(Plan)["ring"], staticmethod)


class FiniteTest(unittest.TestCase):

    def test_small_plans(self):
        for kinds in ("", "a", "ab", "abc", "abcd"):
            for plan in all_plans(kinds):
                self.assertIs(plan.is_finite, list(plan.pairs) == all_pairs(kinds))

    def test_a_finite_floor_has_a_room_for_each_set_of_kinds(self):
        for kinds in ("", "a", "ab", "abcd"):
            plan = Plan(kinds, all_pairs(kinds))
            names = {Room(plan, "".join(way)).name for way in product(kinds, repeat=len(kinds))}
            names |= {Room(plan, "".join(way)).name for many in range(len(kinds)) for way in product(kinds, repeat=many)}
            self.assertEqual(len(names), 2 ** len(kinds))

    def test_eight_kinds(self):
        self.assertIs(Plan("abcdefgh", all_pairs("abcdefgh")).is_finite, True)
        self.assertIs(Plan("abcdefgh", all_pairs("abcdefgh")[1:]).is_finite, False)
        self.assertIs(Q.is_finite, False)


def joined(plan, one, other):
    """Whether a chain joins two kinds in which neighbours do not cross, by trying all chains."""
    for many in range(len(plan.kinds)):
        for middle in permutations(plan.kinds, many):
            chain = [one, *middle, other]
            if not any(plan.crosses(*pair) for pair in zip(chain, chain[1:])):
                return True
    return one == other


class PartsTest(unittest.TestCase):

    def test_examples(self):
        self.assertEqual(P.parts(), ("ac", "b"))
        self.assertEqual(Q.parts(), ("ac", "bd"))
        self.assertEqual(D.parts(), ("ab", "c"))
        self.assertEqual(L.parts(), ("ab",))

    def test_none_and_all_cross(self):
        self.assertEqual(Plan("").parts(), ())
        self.assertEqual(Plan("hgfedcba").parts(), ("abcdefgh",))
        self.assertEqual(Plan("dcba", all_pairs("abcd")).parts(), ("a", "b", "c", "d"))
        self.assertEqual(Plan.ring("abcde").parts(), ("abcde",))

    def test_a_long_chain(self):
        # Only b-h, h-a, a-g, g-c, c-f, f-d, d-e do not cross.
        chain = "bhagcfde"
        apart = [one + other for one, other in zip(chain, chain[1:])]
        pairs = [pair for pair in all_pairs("abcdefgh") if pair not in apart and pair[::-1] not in apart]
        self.assertEqual(Plan("abcdefgh", pairs).parts(), ("abcdefgh",))
        self.assertEqual(Plan("abcdefgh", pairs + ["cg"]).parts(), ("abgh", "cdef"))

    def test_all_plans_of_up_to_four_kinds(self):
        for kinds in ("", "a", "ab", "abc", "abcd"):
            for plan in all_plans(kinds):
                groups = {"".join(other for other in kinds if joined(plan, kind, other)) for kind in kinds}
                self.assertEqual(plan.parts(), tuple(sorted(groups)))


def renamings_by_trying(plan):
    """All renamings, each order of the kinds tried."""
    return ["".join(order) for order in permutations(plan.kinds) if all(
        plan.crosses(one, other) == plan.crosses(order[plan.kinds.index(one)], order[plan.kinds.index(other)])
        for one, other in combinations(plan.kinds, 2)
    )]


class RenamingsTest(unittest.TestCase):

    def test_examples(self):
        found = Plan.ring("abcde").renamings()
        self.assertEqual((len(found), found[0]), (10, "abcde"))
        self.assertEqual(P.renamings(), ["abc", "cba"])
        self.assertEqual(D.renamings(), ["abc", "bac"])
        self.assertEqual(L.renamings(), ["ab", "ba"])
        self.assertEqual(len(Q.renamings()), 8)

    def test_no_kinds(self):
        self.assertEqual(Plan("").renamings(), [""])
        self.assertEqual(Plan("k").renamings(), ["k"])

    def test_all_plans_of_up_to_four_kinds(self):
        for kinds in ("", "x", "az", "abd", "bcxy"):
            for plan in all_plans(kinds):
                self.assertEqual(plan.renamings(), renamings_by_trying(plan))

    def test_plans_of_five_and_six_kinds(self):
        for plan in (
            Plan.ring("acbde"), Plan.ring("fabced"), Plan("abcdef"), Plan("abcdef", all_pairs("abcdef")),
            Plan("abcdef", ["ab", "cd", "ef"]), Plan("abcdef", ["ab", "bc", "cd"]), Plan("vwxyz", ["vw", "wx", "xv"]),
            Plan("abc") * Plan("xyz"), Plan("abcdef", ["ad", "db", "be", "ec"]),
        ):
            found = plan.renamings()
            self.assertEqual(found, renamings_by_trying(plan))
            self.assertEqual(found, sorted(found))

    def test_too_many(self):
        self.assertEqual(caught(TooMany, Plan("abcdefg").renamings).most, 6)
        self.assertEqual(caught(TooMany, Plan.ring("abcdefgh").renamings).most, 6)
        self.assertEqual(len(Plan("abcdef").renamings()), 720)

    def test_the_list_is_new(self):
        found = P.renamings()
        self.assertIs(type(found), list)
        found.clear()
        self.assertEqual(P.renamings(), ["abc", "cba"])


if __name__ == "__main__":
    unittest.main()
