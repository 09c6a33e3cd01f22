"""Points 2, 9 to 11 and 54 to 56: books of rules held against one another."""

import itertools
import unittest

from tailpick import likeness
from tailpick.errors import BadCount, NoOrder, UnlikeJobs
from tailpick.likeness import alike, both, parting, within
from tailpick.rules import Rules
from tests.brute import NAMES, allowed_of, loose_rules, orders_of, some_books
from tests.helpers import ErrorCase

ONE = Rules.read("a b c; c: a b")
OTHER = Rules.read("a b c; c: a | b")
CALLS = [alike, within, parting, both]


def renamed(rules):
    """The rules with the first names for their jobs, so that books can be held against one another."""
    names = dict(zip(rules.jobs, NAMES))

    def told(wanted):
        return tuple(sorted(names[job] for job in wanted))

    return Rules(list(names.values()), [(names[job], [told(wanted) for wanted in alternatives])
                                        for job, alternatives in rules.needs],
                 [(names[job], told(wanted)) for job, wanted in rules.limits])


def some_pairs():
    """Pairs of books of the same jobs; many of them are alike, or one lies within the other."""
    books = [renamed(rules) for rules in
             [*some_books(54, 40, (3, 3, 4)), *some_books(55, 40, (3, 3, 4), [loose_rules]), *some_books(56, 4, (5,))]]
    pairs = [(one, other) for one, other in itertools.product(books, repeat=2) if one.jobs == other.jobs]
    for rules in books:
        pairs.extend((rules, rules.without_need(number)) for number in range(len(rules.needs)))
        pairs.extend((rules, rules.without_limit(number)) for number in range(len(rules.limits)))
    return pairs


PAIRS = some_pairs()


class LikenessTest(unittest.TestCase):

    def test_example(self):
        self.assertEqual(
            [alike(ONE, OTHER), within(ONE, OTHER), parting(ONE, OTHER), str(both(ONE, OTHER))],
            [False, True, (("a", "c", "b"), 1), "a b c; c: a b; c: a | b"])

    def test_p54_alike_against_all_orders(self):
        counts = {True: 0, False: 0}
        for one, other in PAIRS:
            right = orders_of(one) == orders_of(other)
            self.assertIs(alike(one, other), right, (str(one), str(other)))
            counts[right] += one != other
        self.assertGreater(min(counts.values()), 100)

    def test_p9_p54_the_same_orders_exactly_with_the_same_allowed_sets(self):
        for one, other in PAIRS:
            self.assertEqual(orders_of(one) == orders_of(other), allowed_of(one) == allowed_of(other))

    def test_p54_within_against_all_orders(self):
        counts = {True: 0, False: 0}
        for one, other in PAIRS:
            right = set(orders_of(one)) <= set(orders_of(other))
            self.assertIs(within(one, other), right, (str(one), str(other)))
            counts[right] += not alike(one, other)
        self.assertGreater(min(counts.values()), 100)

    def test_p54_other_needs_may_say_the_same(self):
        for text in ["a b c; c: a; c: b", "a b c; a > c; b > c", "a b c; c: a b | a b", "a b c; c: a b; c: -"]:
            self.assertIs(alike(ONE, Rules.read(text)), True)
            self.assertIs(within(ONE, Rules.read(text)), True)
            self.assertIs(within(Rules.read(text), ONE), True)
            self.assertIs(parting(ONE, Rules.read(text)), None)

    def test_p54_within_goes_one_way(self):
        self.assertEqual([within(ONE, OTHER), within(OTHER, ONE)], [True, False])
        self.assertEqual([within(ONE, Rules.read("a b c")), within(Rules.read("a b c"), ONE)], [True, False])
        self.assertIs(within(Rules.read("a b; a: b"), Rules.read("a b; b: a")), False)

    def test_p54_a_set_that_leads_nowhere_does_not_count(self):
        # Both a and c can be done first here, but behind c there is no way on.
        dead_end = Rules.read("a b c; b: a; b > a c")
        self.assertIs(alike(dead_end, Rules.read("a b c; b: a; c: a b")), True)

    def test_p55_against_all_orders(self):
        for one, other in PAIRS:
            ones, others = orders_of(one), orders_of(other)
            apart = [order for order in itertools.permutations(one.jobs) if (order in ones) != (order in others)]
            right = (apart[0], 0 if apart[0] in ones else 1) if apart else None
            self.assertEqual(parting(one, other), right, (str(one), str(other)))

    def test_p55_the_first_order_of_any_of_both_counts(self):
        one, other = Rules.read("a b c; a: b | c; b: a c | c"), Rules.read("a b c; c: a; c: b")
        self.assertEqual([orders_of(one), orders_of(other)], [
            [("c", "a", "b"), ("c", "b", "a")], [("a", "b", "c"), ("b", "a", "c")]])
        self.assertEqual([parting(one, other), parting(other, one)], [(("a", "b", "c"), 1), (("a", "b", "c"), 0)])

    def test_p55_kinds(self):
        found = parting(ONE, OTHER)
        self.assertEqual([type(found), type(found[0]), type(found[1])], [tuple, tuple, int])


class BothTest(ErrorCase):

    def test_p56_needs_and_limits_in_order(self):
        one = Rules.read("a b c; c: a | b; c: b; a > c; b > c")
        other = Rules.read("a b c; b: -; c: a; b > a c; a > c")
        self.assertEqual(str(both(one, other)), "a b c; c: a | b; c: b; b: -; c: a; a > c; b > c; b > a c; a > c")
        self.assertEqual(str(both(other, one)), "a b c; b: -; c: a; c: a | b; c: b; b > a c; a > c; a > c; b > c")
        self.assertEqual(both(one, one), Rules(one.jobs, one.needs * 2, one.limits * 2))

    def test_p56_just_the_orders_that_both_allow(self):
        barred = 0
        for one, other in PAIRS:
            shared = [order for order in orders_of(one) if order in orders_of(other)]
            if len(one.needs) + len(other.needs) <= 12 and len(one.limits) + len(other.limits) <= 12:
                if shared:
                    self.assertEqual(orders_of(both(one, other)), shared)
                else:
                    barred += 1
                    with self.assertRaises(NoOrder):
                        both(one, other)
        self.assertGreater(barred, 50)

    def test_p56_no_order(self):
        self.assert_error(
            NoOrder, {"value": ("c",)}, both, Rules.read("a b c; a: b"), Rules.read("a b c; b: a"))
        self.assert_error(NoOrder, {"value": ()}, both, Rules.read("a b; a: b"), Rules.read("a b; b: a"))

    def test_p11_p56_too_many_needs_or_limits(self):
        needs = [Rules(["a", "b"], [("b", [("a",)])] * count, []) for count in range(13)]
        self.assertEqual(len(both(needs[5], needs[7]).needs), 12)
        self.assert_error(BadCount, {"count": 13}, both, needs[5], needs[8])
        self.assert_error(BadCount, {"count": 24}, both, needs[12], needs[12])
        limits = [Rules(["a", "b"], [], [("a", ("b",))] * count) for count in range(13)]
        self.assertEqual(len(both(limits[12], limits[0]).limits), 12)
        self.assert_error(BadCount, {"count": 13}, both, limits[12], limits[1])
        mixed = Rules(["a", "b"], [("b", [("a",)])] * 6, [("a", ("b",))] * 8)
        self.assert_error(BadCount, {"count": 16}, both, mixed, mixed)
        mixed = Rules(["a", "b"], [("b", [("a",)])] * 7, [("a", ("b",))] * 8)
        self.assert_error(BadCount, {"count": 14}, both, mixed, mixed)


class JobsTest(ErrorCase):

    def test_p54_p55_p56_other_jobs(self):
        texts = ["a b c", "a", "a b", "b c", "a b c d", "a b cc", "b c d", "a b c1"]
        for one, other in itertools.permutations(texts, 2):
            for call in CALLS:
                names = tuple(other.split())
                self.assert_error(UnlikeJobs, {"names": names}, call, Rules.read(one), Rules.read(other))

    def test_p11_p56_the_jobs_come_first(self):
        full = Rules(["a", "b"], [("b", [("a",)])] * 12, [])
        other = Rules(["b", "c"], [("b", [("c",)])] * 12, [])
        self.assert_error(UnlikeJobs, {"names": ("b", "c")}, both, full, other)

    def test_p54_the_order_in_which_jobs_were_given_has_no_meaning(self):
        self.assertIs(alike(Rules(["b", "a"], [], []), Rules(["a", "b"], [], [])), True)

    def test_p10_by_name(self):
        self.assertIs(alike(other=OTHER, one=ONE), False)
        self.assertIs(within(other=OTHER, one=ONE), True)
        self.assertEqual(parting(other=OTHER, one=ONE), (("a", "c", "b"), 1))
        self.assertEqual(both(other=OTHER, one=ONE), Rules.read("a b c; c: a b; c: a | b"))

    def test_p10_rules_stay_as_they_are(self):
        for call in CALLS:
            call(ONE, OTHER)
            call(OTHER, ONE)
        self.assertEqual([str(ONE), str(OTHER)], ["a b c; c: a b", "a b c; c: a | b"])

    def test_each_function_is_defined_here(self):
        for name in ["alike", "within", "parting", "both"]:
            self.assertEqual(getattr(likeness, name).__module__, "tailpick.likeness")


if __name__ == "__main__":
    unittest.main()
