"""Points 2, 3, 6 to 11 and 40 to 43: the tail order and its worth."""

import unittest

from tailpick import tails
from tailpick.costs import Cost
from tailpick.errors import BadSet
from tailpick.orders import is_allowed, is_order
from tailpick.plans import Plan, best_worth
from tailpick.rules import Rules
from tailpick.tails import cheapest_last, tail_order, tail_sets, tail_worth
from tailpick.taming import is_tame
from tests.brute import (
    allowed_of, beginnings_of, best_of, last_costs, loose_rules, sets_of, some_books, some_plans, tail_of, triples_of,
    worth_of)
from tests.helpers import ODD_VALUES, ErrorCase, example_plan

BOOKS = [*some_books(40, 120), *some_books(41, 180, (3, 4, 4, 5), [loose_rules])]
PLANS = [*some_plans(40, BOOKS), *some_plans(41, BOOKS)]
FREE = {name: Cost([]) for name in "abc"}


class CheapestLastTest(ErrorCase):

    def test_example(self):
        plan = example_plan()
        self.assertEqual(
            [cheapest_last(plan, ("a", "b", "c")), tail_order(plan), tail_worth(plan), tail_sets(plan)[1]],
            ["b", ("a", "c", "b"), 2, ("a", "c")])

    def test_p8_p40_each_allowed_set_of_the_example(self):
        found = {wanted: cheapest_last(example_plan(), wanted) for wanted in allowed_of(example_plan().rules)[1:]}
        self.assertEqual(found, {
            ("a",): "a", ("b",): "b", ("a", "b"): "a", ("a", "c"): "c", ("a", "b", "c"): "b"})

    def test_p8_p40_against_the_words(self):
        for plan in PLANS[:300]:
            for wanted in allowed_of(plan.rules)[1:]:
                self.assertEqual(cheapest_last(plan, wanted), min(last_costs(plan, wanted))[1], str(plan.rules))

    def test_p40_the_costs_at_the_sum_of_the_durations_count(self):
        # At 5 both are over; b is the cheaper one just there.
        costs = {"a": Cost([(5, 3)]), "b": Cost([(1, 2), (6, 9)])}
        rules = Rules.read("a b")
        self.assertEqual(cheapest_last(Plan(rules, {"a": 2, "b": 3}, costs), ("a", "b")), "b")
        self.assertEqual(cheapest_last(Plan(rules, {"a": 2, "b": 2}, costs), ("a", "b")), "a")
        self.assertEqual(cheapest_last(Plan(rules, {"a": 3, "b": 3}, costs), ("a", "b")), "a")

    def test_p40_durations_outside_of_the_set_do_not_count(self):
        plan = Plan(Rules.read("a b c"), {"a": 1, "b": 1, "c": 50}, {**FREE, "a": Cost([(3, 1)]), "b": Cost([(2, 1)])})
        self.assertEqual(cheapest_last(plan, ("a", "b")), "a")
        self.assertEqual(cheapest_last(plan, ("a", "c")), "c")

    def test_p8_p40_of_equal_costs_the_first_name(self):
        for costs in [FREE, {name: Cost([(0, 5)]) for name in "abc"}, {**FREE, "a": Cost([(100, 1)])}]:
            plan = Plan(Rules.read("a b c"), {"a": 9, "b": 1, "c": 3}, costs)
            self.assertEqual(cheapest_last(plan, ("a", "b", "c")), "a")
            self.assertEqual(cheapest_last(plan, ("b", "c")), "b")
        plan = Plan(Rules.read("a b c; c: a"), {"a": 9, "b": 1, "c": 3}, FREE)
        self.assertEqual(cheapest_last(plan, ("a", "b", "c")), "b")

    def test_p3_p40_names_are_ordered_as_strings_are(self):
        jobs = ["a9", "a10", "b"]
        plan = Plan(Rules(jobs, [], []), {job: 1 for job in jobs}, {job: Cost([]) for job in jobs})
        self.assertEqual(cheapest_last(plan, ("a10", "a9", "b")), "a10")
        self.assertEqual(tail_order(plan), ("b", "a9", "a10"))

    def test_p6_p40_only_last_jobs_are_taken(self):
        # a is free, but c comes behind it.
        plan = Plan(Rules.read("a c; c: a"), {"a": 1, "c": 1}, {"a": Cost([]), "c": Cost([(0, 7)])})
        self.assertEqual(cheapest_last(plan, ("a", "c")), "c")
        # a and b are free, but no order that is allowed ends with them.
        dead_end = Rules.read("a b c; b: a; b > a c")
        plan = Plan(dead_end, {"a": 1, "b": 1, "c": 1}, {**FREE, "c": Cost([(0, 7)])})
        self.assertEqual(cheapest_last(plan, ("a", "b", "c")), "c")

    def test_p40_sets_that_are_not_allowed_and_the_empty_set(self):
        self.assert_error(BadSet, {"value": ()}, cheapest_last, example_plan(), ())
        for plan in PLANS[:60]:
            allowed = allowed_of(plan.rules)
            for wanted in sets_of(plan.rules.jobs):
                if wanted not in allowed or wanted == ():
                    self.assert_error(BadSet, {"value": wanted}, cheapest_last, plan, wanted)

    def test_p2_p40_values_that_are_no_sets(self):
        for value in [*ODD_VALUES, ["a", "c"], ("c", "a"), ("a", "c", "c"), ("a", "d"), ("c",), "ab", {"a": 1, "c": 2}]:
            if value != ("a",):
                error = self.assert_error(BadSet, {"value": value}, cheapest_last, example_plan(), value)
                self.assertIs(error.value, value)


class TailOrderTest(unittest.TestCase):

    def test_p8_p41_against_the_words(self):
        for plan in PLANS:
            order = tail_of(plan)
            self.assertEqual(tail_order(plan), order, str(plan.rules))
            self.assertEqual(tail_worth(plan), worth_of(order, plan.durations(), plan.costs()))

    def test_p6_p41_it_is_allowed(self):
        for plan in PLANS:
            self.assertIs(is_order(plan.rules, tail_order(plan)), True, str(plan.rules))

    def test_p41_kinds(self):
        self.assertIs(type(tail_order(example_plan())), tuple)
        self.assertIs(type(tail_worth(example_plan())), int)

    def test_p41_one_job(self):
        plan = Plan(Rules.read("a"), {"a": 4}, {"a": Cost([(4, 6)])})
        self.assertEqual((tail_order(plan), tail_worth(plan), tail_sets(plan)), (("a",), 6, [("a",)]))

    def test_p2_p41_six_jobs_and_great_numbers(self):
        jobs = tuple("abcdef")
        costs = {job: Cost([(10 ** 9 * (at + 1) + 1, 10 ** 40 + at)]) for at, job in enumerate(reversed(jobs))}
        plan = Plan(Rules(jobs, [], []), {job: 10 ** 9 for job in jobs}, costs)
        self.assertEqual((tail_order(plan), tail_worth(plan)), (tuple("fedcba"), 0))
        # All but f cost more by 1 than the job before it by name; f is 1 too late.
        plan = Plan(plan.rules, {**plan.durations(), "f": 10 ** 9 - 1}, {**costs, "a": Cost([(1, 10 ** 40 - 1)])})
        self.assertEqual((tail_order(plan), tail_worth(plan)), (tuple("fedcba"), 10 ** 40 - 1))

    def test_p10_jobs_without_durations_end_at_the_same_time(self):
        plan = Plan(Rules.read("a b c"), {"a": 0, "b": 0, "c": 0}, {**FREE, "a": Cost([(0, 1)])})
        self.assertEqual((tail_order(plan), tail_worth(plan)), (("a", "c", "b"), 1))


class TailSetsTest(unittest.TestCase):

    def test_p42_of_the_example(self):
        self.assertEqual(tail_sets(example_plan()), [("a", "b", "c"), ("a", "c"), ("a",)])

    def test_p42_the_beginnings_from_the_longest_one_on(self):
        for plan in PLANS:
            found = tail_sets(plan)
            self.assertIs(type(found), list)
            self.assertEqual(found, beginnings_of(tail_of(plan))[:0:-1])
            self.assertEqual([len(wanted) for wanted in found], list(range(len(plan.rules.jobs), 0, -1)))
            self.assertTrue(all(is_allowed(plan.rules, wanted) for wanted in found))

    def test_p10_p42_the_list_is_new(self):
        plan = example_plan()
        tail_sets(plan).clear()
        self.assertEqual(len(tail_sets(plan)), 3)


class WorthTest(unittest.TestCase):

    def test_p9_p43_in_tame_rules_it_is_the_best_worth(self):
        tame = [plan for plan in PLANS if not triples_of(plan.rules)]
        self.assertGreater(len(tame), 150)
        for plan in tame:
            self.assertEqual(tail_worth(plan), best_of(plan), str(plan.rules))
            self.assertEqual(tail_worth(plan), best_worth(plan), str(plan.rules))

    def test_p43_in_every_plan_it_is_at_least_the_best_worth(self):
        greater = 0
        for plan in PLANS:
            self.assertGreaterEqual(tail_worth(plan), best_of(plan), str(plan.rules))
            greater += tail_worth(plan) > best_worth(plan)
        self.assertGreater(greater, 5)

    def test_p7_p43_a_wild_plan_whose_tail_order_is_the_best_one(self):
        plan = Plan(Rules.read("a b c; b: a | c"), {"a": 1, "b": 1, "c": 1}, FREE)
        self.assertIs(is_tame(plan.rules), False)
        self.assertEqual(tail_worth(plan), best_worth(plan))


class ArgumentsTest(unittest.TestCase):

    def test_p10_by_name(self):
        plan = example_plan()
        self.assertEqual(cheapest_last(wanted=("a", "c"), plan=plan), "c")
        self.assertEqual(tail_order(plan=plan), ("a", "c", "b"))
        self.assertEqual(tail_worth(plan=plan), 2)
        self.assertEqual(tail_sets(plan=plan)[2], ("a",))

    def test_p10_the_plan_stays_as_it_is(self):
        plan = example_plan()
        for call in [tail_order, tail_worth, tail_sets]:
            self.assertEqual(call(plan), call(plan))
        cheapest_last(plan, ("a", "b"))
        self.assertEqual(plan, example_plan())

    def test_each_function_is_defined_here(self):
        for name in ["cheapest_last", "tail_order", "tail_worth", "tail_sets"]:
            self.assertEqual(getattr(tails, name).__module__, "tailpick.tails")


if __name__ == "__main__":
    unittest.main()
