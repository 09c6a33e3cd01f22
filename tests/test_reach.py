"""Points 5 and 16: which rules allow no order, and how far one gets then."""

import itertools
import random
import unittest

from tailpick.errors import NoOrder
from tailpick.rules import Rules
from tests.brute import NAMES, keeps, some_rules
from tests.helpers import ErrorCase


def farthest(jobs, needs, limits):
    """The first of the longest sets that can be reached, tried out order by order."""
    for length in range(len(jobs), -1, -1):
        for wanted in itertools.combinations(sorted(jobs), length):
            if any(keeps(order, needs, limits) for order in itertools.permutations(wanted)):
                return wanted
    return None


class ReachTest(ErrorCase):

    def test_example(self):
        self.assert_error(
            NoOrder, {"value": ("c",)}, Rules, ["a", "b", "c"], [("a", [("b",)]), ("b", [("a",)])], [])

    def test_p5_a_need_is_met_by_one_alternative_ahead_of_the_job(self):
        Rules(["a", "b"], [("b", [("a",)])], [])
        Rules(["a", "b", "c"], [("a", [("b", "c"), ("b",)]), ("c", [("a",)])], [])
        self.assert_error(
            NoOrder, {"value": ("b",)}, Rules, ["a", "b", "c"], [("a", [("b", "c"), ("c",)]), ("c", [("a",)])], [])

    def test_p5_each_of_several_needs_must_be_met(self):
        needs = [("a", [("b",)]), ("a", [("c",)])]
        Rules(["a", "b", "c"], needs, [])
        self.assert_error(NoOrder, {"value": ("b",)}, Rules, ["a", "b", "c"], [*needs, ("c", [("a",)])], [])

    def test_p5_an_empty_alternative_is_always_met(self):
        Rules(["a", "b"], [("a", [("b",), ()]), ("b", [("a",)])], [])

    def test_p5_a_limit_holds_for_the_last_of_its_jobs_only(self):
        Rules(["a", "b", "c"], [("a", [("b",)])], [("a", ("b", "c"))])
        self.assert_error(
            NoOrder, {"value": ("b",)}, Rules, ["a", "b", "c"], [("a", [("b", "c")])], [("a", ("b", "c"))])
        self.assert_error(NoOrder, {"value": ("c",)}, Rules, ["a", "b", "c"], [("a", [("b",)])], [("a", ("b",))])

    def test_p16_limits_against_each_other(self):
        self.assert_error(NoOrder, {"value": ()}, Rules, ["a", "b"], [], [("a", ("b",)), ("b", ("a",))])

    def test_p16_nothing_but_the_empty_set(self):
        needs = [("a", [("b",)]), ("b", [("c",)]), ("c", [("a",)])]
        self.assert_error(NoOrder, {"value": ()}, Rules, ["c", "b", "a"], needs, [])

    def test_p16_the_first_of_the_longest_sets(self):
        # e and f wait for each other, so each limit of e bars two jobs from each other.
        circle = [("e", [("f",)]), ("f", [("e",)])]
        barred = [("e", ("a", "b")), ("e", ("a", "c"))]
        self.assert_error(
            NoOrder, {"value": ("b", "c")}, Rules, ["a", "b", "c", "e", "f"], circle, barred)
        barred = [*barred, ("e", ("b", "d")), ("e", ("c", "d"))]
        self.assert_error(
            NoOrder, {"value": ("a", "d")}, Rules, ["d", "c", "b", "a", "e", "f"], circle, barred)
        limits = [("c", ("a", "b")), ("b", ("a", "c")), ("a", ("b", "c"))]
        self.assert_error(NoOrder, {"value": ("a",)}, Rules, ["c", "b", "a"], [], limits)

    def test_p16_with_the_greatest_numbers(self):
        circle = [(name, [(other,)] * 6) for name, other in zip(NAMES, NAMES[1:] + NAMES[:1])] * 2
        self.assert_error(NoOrder, {"value": ()}, Rules, NAMES, circle, [("a", ("b", "c"))] * 12)

    def test_p16_sets_that_can_be_reached_but_lead_nowhere(self):
        self.assert_error(
            NoOrder, {"value": ("a", "b")}, Rules, ["a", "b", "c", "d"],
            [("d", [("c",)]), ("c", [("d",)])], [("b", ("c",))])

    def test_p5_p16_against_all_orders(self):
        source = random.Random(16)
        refused = 0
        for turn in range(1500):
            jobs, needs, limits = some_rules(source, source.randint(2, 5))
            wanted = farthest(jobs, needs, limits)
            if len(wanted) == len(jobs):
                self.assertEqual(Rules(jobs, needs, limits).jobs, wanted)
            else:
                refused += 1
                self.assert_error(NoOrder, {"value": wanted}, Rules, jobs, needs, limits)
        self.assertGreater(refused, 200)
        self.assertLess(refused, 1300)


if __name__ == "__main__":
    unittest.main()
