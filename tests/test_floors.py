"""Points 2, 6, 7, 9 to 11 and 44 to 46: floors, which show that no order has a smaller worth."""

import itertools
import unittest

from tailpick import floors
from tailpick.costs import Cost
from tailpick.errors import NotTame
from tailpick.floors import check_floor, floor
from tailpick.plans import Plan, best_worth
from tailpick.rules import Rules
from tailpick.tails import tail_sets
from tests.brute import (
    allowed_of, best_of, last_costs, loose_rules, orders_of, sets_of, some_books, some_plans, triples_of, whole_of,
    without, worth_of)
from tests.helpers import ODD_VALUES, ErrorCase, example_plan

BOOKS = [*some_books(44, 80), *some_books(45, 120, (3, 4, 4, 5), [loose_rules])]
PLANS = some_plans(44, BOOKS)
TAME = [plan for plan in PLANS if not triples_of(plan.rules)]
WILD = [plan for plan in PLANS if triples_of(plan.rules)]
ALL = ("a", "b", "c")


def least_of(plan, wanted):
    return min(last_costs(plan, wanted))[0]


class CheckFloorTest(ErrorCase):

    def test_example(self):
        plan = example_plan()
        self.assertEqual(
            [floor(plan), check_floor(plan, (ALL, 2)), check_floor(plan, (ALL, 3))], [(ALL, 2), True, False])

    def test_p44_each_set_and_bound(self):
        self.assertGreater(len(TAME), 80)
        for plan in TAME[:80]:
            allowed = allowed_of(plan.rules)
            for wanted in sets_of(plan.rules.jobs):
                if wanted == () or wanted not in allowed:
                    for bound in [-1, 0, 1]:
                        self.assertIs(check_floor(plan, (wanted, bound)), False, (str(plan.rules), wanted))
                    continue
                least = least_of(plan, wanted)
                for bound in [-1, 0, least, least + 1]:
                    self.assertIs(check_floor(plan, (wanted, bound)), bound <= least, (str(plan.rules), wanted))

    def test_p44_each_last_job_has_to_cost_so_much(self):
        plan = Plan(Rules.read("a b c; c: a"), {"a": 2, "b": 3, "c": 1},
                    {"a": Cost([]), "b": Cost([(5, 4)]), "c": Cost([(6, 7)])})
        # a is no last job beside c.
        self.assertEqual([check_floor(plan, (ALL, bound)) for bound in [4, 5]], [True, False])
        self.assertEqual([check_floor(plan, (("a", "b"), bound)) for bound in [0, 1]], [True, False])
        self.assertEqual([check_floor(plan, (("b",), bound)) for bound in [0, 1]], [True, False])

    def test_p44_the_empty_set_is_none(self):
        for bound in [-1, 0, 1]:
            self.assertIs(check_floor(example_plan(), ((), bound)), False)

    def test_p2_p44_bounds_are_integers_of_any_size(self):
        for bound in [2, 1, 0, -1, -2, -10 ** 30]:
            self.assertIs(check_floor(example_plan(), (ALL, bound)), True)
        for bound in [3, 10 ** 30]:
            self.assertIs(check_floor(example_plan(), (ALL, bound)), False)
        great = {name: Cost([(1, 10 ** 40)]) for name in ALL}
        plan = Plan(Rules.read("a b c"), {name: 1 for name in ALL}, great)
        self.assertEqual([check_floor(plan, (ALL, 10 ** 40 + more)) for more in [-1, 0, 1]], [True, True, False])
        self.assertEqual(floor(plan), (ALL, 10 ** 40))

    def test_p2_p44_bounds_that_are_no_integers(self):
        for value in [*ODD_VALUES, ()]:
            if type(value) is not int:
                self.assertIs(check_floor(example_plan(), (ALL, value)), False, value)

    def test_p2_p44_sets_that_are_none(self):
        for value in [*ODD_VALUES, list(ALL), ("a", "c", "b"), ("a", "c", "c"), ("c",), (*ALL, "d"), "abc", (ALL,)]:
            self.assertIs(check_floor(example_plan(), (value, 0)), value == ("a",), value)
            self.assertIs(check_floor(example_plan(), (value, -1)), value == ("a",), value)

    def test_p2_p44_any_value_may_be_asked_about(self):
        for value in [*ODD_VALUES, (), (ALL,), [ALL, 2], (ALL, 2, 2), (2, ALL), ((ALL, 2),), [(ALL, 2)], {ALL: 2},
                      (*ALL, 2), ("a", 0), (0, 0), {"set": ALL, "bound": 2}]:
            self.assertIs(check_floor(example_plan(), value), False, value)

    def test_p7_p44_wild_rules(self):
        self.assertGreater(len(WILD), 40)
        for plan in WILD:
            first = triples_of(plan.rules)[0]
            self.assert_error(NotTame, {"value": first}, floor, plan)
            for value in [(plan.rules.jobs, 0), (plan.rules.jobs, 100), ((), 0), None, [], "a", True]:
                self.assert_error(NotTame, {"value": first}, check_floor, plan, value)


class FloorTest(ErrorCase):

    def test_p9_p45_no_allowed_order_lies_below_a_floor(self):
        for plan in TAME:
            best = best_of(plan)
            for wanted in allowed_of(plan.rules)[1:]:
                self.assertLessEqual(least_of(plan, wanted), best, (str(plan.rules), wanted))

    def test_p6_p45_the_last_one_of_the_set_in_an_order(self):
        for plan in TAME:
            allowed = allowed_of(plan.rules)
            for order, wanted in itertools.product(orders_of(plan.rules), allowed[1:]):
                last = [job for job in order if job in wanted][-1]
                self.assertIn(without(wanted, last), allowed)
                self.assertGreaterEqual(plan.ends(order)[last], whole_of(plan, wanted))

    def test_p9_p46_against_the_words(self):
        later = 0
        for plan in TAME:
            best = best_of(plan)
            wanted = [wanted for wanted in tail_sets(plan) if least_of(plan, wanted) >= best][0]
            self.assertEqual(floor(plan), (wanted, best), str(plan.rules))
            self.assertIs(check_floor(plan, floor(plan)), True)
            later += wanted != plan.rules.jobs
        self.assertGreater(later, 20)

    def test_p46_the_first_of_several_sets(self):
        flat = {name: Cost([(0, 5)]) for name in ALL}
        self.assertEqual(floor(Plan(Rules.read("a b c; c: a"), {name: 1 for name in ALL}, flat)), (ALL, 5))
        free = {name: Cost([]) for name in ALL}
        self.assertEqual(floor(Plan(Rules.read("a b c; c: a"), {name: 1 for name in ALL}, free)), (ALL, 0))

    def test_p46_a_shorter_set(self):
        # b is free at the end, then c has to be the last one of the others.
        plan = Plan(Rules.read("a b c; c: a"), {"a": 2, "b": 3, "c": 1},
                    {"a": Cost([]), "b": Cost([]), "c": Cost([(3, 4), (6, 9)])})
        self.assertEqual(floor(plan), (("a", "c"), 4))
        plan = Plan(Rules.read("a b c; b: a; c: b"), {"a": 1, "b": 0, "c": 9}, {**plan.costs(), "a": Cost([(1, 10)])})
        self.assertEqual((floor(plan), best_worth(plan)), ((("a",), 10), 10))

    def test_p46_one_job(self):
        self.assertEqual(floor(Plan(Rules.read("a"), {"a": 4}, {"a": Cost([(4, 6)])})), (("a",), 6))

    def test_p46_kinds(self):
        found = floor(example_plan())
        self.assertEqual([type(found), type(found[0]), type(found[1])], [tuple, tuple, int])

    def test_p46_it_shows_that_the_tail_order_is_best(self):
        for plan in TAME:
            wanted, bound = floor(plan)
            worths = [worth_of(order, plan.durations(), plan.costs()) for order in orders_of(plan.rules)]
            self.assertEqual(min(worths), bound)


class ArgumentsTest(unittest.TestCase):

    def test_p10_by_name(self):
        self.assertEqual(floor(plan=example_plan()), (ALL, 2))
        self.assertIs(check_floor(value=(ALL, 2), plan=example_plan()), True)

    def test_p10_arguments_stay_as_they_are(self):
        plan, value = example_plan(), [[ALL], {"a": [2]}]
        check_floor(plan, value)
        check_floor(plan, (value, value))
        self.assertEqual(floor(plan), floor(plan))
        self.assertEqual((plan, value), (example_plan(), [[ALL], {"a": [2]}]))

    def test_each_function_is_defined_here(self):
        for name in ["check_floor", "floor"]:
            self.assertEqual(getattr(floors, name).__module__, "tailpick.floors")


if __name__ == "__main__":
    unittest.main()
