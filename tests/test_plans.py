"""Points 2, 8, 10, 11 and 35 to 39: plans, their worths and their best orders."""

import itertools
import unittest

from tailpick import plans
from tailpick.costs import Cost
from tailpick.errors import BadNumber, BadOrder, BadSet, NotAllowed, UnlikeJobs
from tailpick.plans import Plan, best_order, best_worth
from tailpick.rules import Rules
from tests.brute import allowed_of, beginnings_of, orders_of, sets_of, some_books, some_plans, worth_of
from tests.helpers import ODD_VALUES, ErrorCase, example_plan

RULES = Rules.read("a b c; c: a")
DURATIONS = {"a": 2, "b": 3, "c": 1}
COSTS = {"a": Cost([(6, 9)]), "b": Cost([(4, 2)]), "c": Cost([(3, 1), (6, 4)])}
FREE = {name: Cost([]) for name in "abc"}


PLANS = some_plans(35, some_books(35, 250))


class ConstructorTest(ErrorCase):

    def test_p35_keys_that_are_not_the_jobs(self):
        for keys in ["", "a", "ab", "bc", "abcd", "abd", "bcd", "ABC", ["a", "b", "c", "zz"], ["a", "b", "cc"]]:
            names = tuple(sorted(keys))
            durations = {key: 1 for key in reversed(keys)}
            costs = {key: Cost([]) for key in reversed(keys)}
            self.assert_error(UnlikeJobs, {"names": names}, Plan, RULES, durations, costs)
            self.assert_error(UnlikeJobs, {"names": names}, Plan, RULES, DURATIONS, costs)
            self.assert_error(UnlikeJobs, {"names": names}, Plan, RULES, durations, COSTS)

    def test_p11_p35_durations_ahead_of_costs(self):
        self.assert_error(UnlikeJobs, {"names": ("b",)}, Plan, RULES, {"b": None}, {"c": Cost([])})
        self.assert_error(UnlikeJobs, {"names": ("c",)}, Plan, RULES, {**DURATIONS, "a": None}, {"c": Cost([])})

    def test_p35_durations(self):
        for duration in [0, 1, 999999999, 1000000000]:
            self.assertEqual(Plan(RULES, {**DURATIONS, "b": duration}, COSTS).durations()["b"], duration)
        for duration in [-1, -2, 1000000001, 10 ** 30, -10 ** 30]:
            self.assert_error(BadNumber, {"value": duration}, Plan, RULES, {**DURATIONS, "b": duration}, COSTS)

    def test_p2_p35_durations_that_are_no_integers(self):
        for value in ODD_VALUES:
            if type(value) is not int:
                error = self.assert_error(BadNumber, {"value": value}, Plan, RULES, {**DURATIONS, "c": value}, COSTS)
                self.assertIs(error.value, value)

    def test_p10_p11_p35_the_first_job_by_name_counts(self):
        self.assert_error(BadNumber, {"value": -2}, Plan, RULES, {"c": -3, "b": -2, "a": 1}, COSTS)
        self.assert_error(BadNumber, {"value": -1}, Plan, RULES, {"c": -3, "b": -2, "a": -1}, COSTS)
        self.assert_error(BadNumber, {"value": None}, Plan, RULES, {"c": -3, "a": 0, "b": None}, COSTS)

    def test_p10_p36_arguments_are_copied_and_not_changed(self):
        durations, costs = dict(DURATIONS), dict(COSTS)
        plan = Plan(RULES, durations, costs)
        self.assertEqual((durations, costs), (DURATIONS, COSTS))
        durations["a"] = 7
        durations["d"] = 1
        costs.clear()
        self.assertEqual(plan, example_plan())
        self.assertEqual((plan.durations(), plan.costs()), (DURATIONS, COSTS))

    def test_p10_p36_dicts_that_are_returned_are_new(self):
        plan = example_plan()
        plan.durations().clear()
        plan.costs()["a"] = Cost([])
        plan.ends(("a", "b", "c")).clear()
        self.assertEqual(plan, example_plan())
        self.assertEqual(plan.ends(("a", "b", "c")), {"a": 2, "b": 5, "c": 6})

    def test_p36_the_parts(self):
        plan = example_plan()
        self.assertIs(type(plan.rules), Rules)
        self.assertEqual(plan.rules, RULES)
        self.assertIs(type(plan.durations()), dict)
        self.assertIs(type(plan.costs()), dict)
        self.assertEqual(str(plan.costs()["c"]), "3:1 6:4")
        with self.assertRaises(AttributeError):
            plan.rules = RULES

    def test_p10_by_name(self):
        plan = Plan(costs=COSTS, durations=DURATIONS, rules=RULES)
        self.assertEqual(plan, example_plan())
        self.assertEqual(plan.whole(wanted=("a", "c")), 3)
        self.assertEqual(plan.ends(order=("a", "c", "b"))["b"], 6)
        self.assertEqual(plan.worth(order=("a", "c", "b")), 2)
        self.assertEqual((best_worth(plan=plan), best_order(plan=plan)), (2, ("a", "c", "b")))


class EqualityTest(unittest.TestCase):

    def test_p36_equal(self):
        backwards = [{job: table[job] for job in "cba"} for table in [DURATIONS, COSTS]]
        copied = {job: Cost(cost.steps) for job, cost in COSTS.items()}
        self.assertTrue(example_plan() == Plan(Rules.read("a b c; c: a"), *backwards))
        self.assertTrue(example_plan() == Plan(RULES, DURATIONS, copied))
        self.assertFalse(example_plan() != example_plan())

    def test_p36_unlike(self):
        for other in [
            Plan(Rules.read("a b c; b: a"), DURATIONS, COSTS), Plan(RULES, {**DURATIONS, "b": 4}, COSTS),
            Plan(RULES, DURATIONS, {**COSTS, "b": Cost([(4, 3)])}), Plan(Rules.read("a b c; c: a; c: a"), DURATIONS, COSTS),
            Plan(Rules.read("a"), {"a": 2}, {"a": COSTS["a"]}),
        ]:
            self.assertFalse(example_plan() == other)
            self.assertTrue(example_plan() != other)

    def test_p10_not_equal_to_values_of_other_kinds(self):
        for value in [*ODD_VALUES, RULES, DURATIONS, COSTS, (RULES, DURATIONS, COSTS), COSTS["a"]]:
            self.assertFalse(example_plan() == value)
            self.assertFalse(value == example_plan())
            self.assertTrue(example_plan() != value)


class TimesTest(ErrorCase):

    def test_example(self):
        plan = example_plan()
        self.assertEqual(
            [plan.whole(("a", "c")), plan.ends(("a", "c", "b")), plan.worth(("a", "c", "b"))],
            [3, {"a": 2, "c": 3, "b": 6}, 2])

    def test_p36_whole_of_each_set(self):
        plan = example_plan()
        for wanted in sets_of("abc"):
            self.assertEqual(plan.whole(wanted), sum(DURATIONS[job] for job in wanted))
        # A set need not be allowed.
        self.assertEqual([plan.whole(()), plan.whole(("c",)), plan.whole(("b", "c"))], [0, 1, 4])

    def test_p2_p36_values_that_are_no_sets_of_the_jobs(self):
        for value in [*ODD_VALUES, ["a", "b"], ("b", "a"), ("a", "d"), ("a", "b", "c", "d"), "abc"]:
            error = self.assert_error(BadSet, {"value": value}, example_plan().whole, value)
            self.assertIs(error.value, value)

    def test_p8_p37_ends(self):
        for order in itertools.permutations("abc"):
            wanted = {job: sum(DURATIONS[name] for name in order[:at + 1]) for at, job in enumerate(order)}
            found = example_plan().ends(order)
            self.assertEqual(found, wanted)
            self.assertEqual(list(found), list(order))
        nothing = Plan(RULES, {"a": 0, "b": 0, "c": 0}, COSTS)
        self.assertEqual(nothing.ends(("c", "b", "a")), {"a": 0, "b": 0, "c": 0})
        longest = Plan(RULES, {"a": 10 ** 9, "b": 10 ** 9, "c": 10 ** 9}, COSTS)
        self.assertEqual(longest.ends(("c", "b", "a")), {"c": 10 ** 9, "b": 2 * 10 ** 9, "a": 3 * 10 ** 9})

    def test_p2_p37_p38_values_that_are_no_orders_of_the_jobs(self):
        wrong = [*ODD_VALUES, (), ("a", "b"), ["a", "b", "c"], ("a", "b", "c", "a"), ("a", "b", "d"), ("a", "b", "b"),
                 ("a", "b", None), ("a", "b", ["c"]), "abc", {"a": 1, "b": 2, "c": 3}]
        for value in wrong:
            for call in [example_plan().ends, example_plan().worth]:
                error = self.assert_error(BadOrder, {"value": value}, call, value)
                self.assertIs(error.value, value)


class WorthTest(ErrorCase):

    def test_p8_p38_against_the_words(self):
        for plan in PLANS:
            for order in orders_of(plan.rules):
                self.assertEqual(plan.worth(order), worth_of(order, plan.durations(), plan.costs()))

    def test_p38_a_job_counts_at_its_end(self):
        rules = Rules.read("a b")
        plan = Plan(rules, {"a": 3, "b": 2}, {"a": Cost([(3, 1), (5, 6)]), "b": Cost([(5, 2)])})
        self.assertEqual([plan.worth(("a", "b")), plan.worth(("b", "a"))], [2, 6])
        self.assertEqual(Plan(rules, {"a": 2, "b": 2}, plan.costs()).worth(("b", "a")), 1)
        self.assertEqual(Plan(rules, {"a": 2, "b": 2}, plan.costs()).worth(("a", "b")), 0)

    def test_p38_orders_that_are_not_allowed(self):
        self.assert_error(NotAllowed, {"value": ("c",)}, example_plan().worth, ("c", "a", "b"))
        self.assert_error(NotAllowed, {"value": ("b", "c")}, example_plan().worth, ("b", "c", "a"))
        # The beginning that leads nowhere counts, even if all rules have been kept up to it.
        plan = Plan(Rules.read("a b c; b: a; b > a c"), DURATIONS, COSTS)
        self.assert_error(NotAllowed, {"value": ("c",)}, plan.worth, ("c", "a", "b"))

    def test_p38_against_all_orders(self):
        for plan in PLANS[:60]:
            good, allowed = orders_of(plan.rules), allowed_of(plan.rules)
            for order in itertools.permutations(plan.rules.jobs):
                if order not in good:
                    barred = [done for done in beginnings_of(order) if done not in allowed]
                    self.assert_error(NotAllowed, {"value": barred[0]}, plan.worth, order)


class BestTest(unittest.TestCase):

    def test_example(self):
        self.assertEqual([best_worth(example_plan()), best_order(example_plan())], [2, ("a", "c", "b")])

    def test_p39_against_all_orders(self):
        shared = 0
        for plan in PLANS:
            worths = [(worth_of(order, plan.durations(), plan.costs()), order) for order in orders_of(plan.rules)]
            self.assertEqual((best_worth(plan), best_order(plan)), min(worths), str(plan.rules))
            shared += len([worth for worth, _ in worths if worth == min(worths)[0]]) in range(2, len(worths))
        self.assertGreater(shared, 50)

    def test_p39_the_first_of_all_if_all_are_equally_good(self):
        self.assertEqual(best_order(Plan(RULES, DURATIONS, FREE)), ("a", "b", "c"))
        self.assertEqual(best_worth(Plan(RULES, DURATIONS, FREE)), 0)
        flat = {name: Cost([(0, 5)]) for name in "abc"}
        self.assertEqual(best_order(Plan(RULES, DURATIONS, flat)), ("a", "b", "c"))
        self.assertEqual(best_worth(Plan(RULES, DURATIONS, flat)), 5)

    def test_p39_an_order_may_be_worse_ahead_of_its_worst_job(self):
        # c costs 9 in any case, so the first order may also take 8 for b.
        costs = {"a": Cost([(1, 1)]), "b": Cost([(2, 3), (5, 8)]), "c": Cost([(0, 9)])}
        self.assertEqual(best_order(Plan(RULES, DURATIONS, costs)), ("a", "b", "c"))

    def test_p39_only_allowed_orders_count(self):
        # Without the rules c would come first, and nothing would cost anything.
        costs = {"a": Cost([]), "b": Cost([]), "c": Cost([(2, 4)])}
        self.assertEqual(best_worth(Plan(RULES, DURATIONS, costs)), 4)
        self.assertEqual(best_worth(Plan(Rules.read("a b c"), DURATIONS, costs)), 0)
        dead_end = Rules.read("a b c; b: a; b > a c")
        self.assertEqual(best_order(Plan(dead_end, DURATIONS, costs)), ("a", "b", "c"))

    def test_p39_one_job(self):
        plan = Plan(Rules.read("a"), {"a": 4}, {"a": Cost([(4, 6)])})
        self.assertEqual((best_worth(plan), best_order(plan)), (6, ("a",)))

    def test_p39_six_jobs_and_great_numbers(self):
        jobs = tuple("abcdef")
        costs = {job: Cost([(10 ** 9 * (at + 1) + 1, 10 ** 40 + at)]) for at, job in enumerate(reversed(jobs))}
        plan = Plan(Rules(jobs, [], []), {job: 10 ** 9 for job in jobs}, costs)
        self.assertEqual((best_worth(plan), best_order(plan)), (0, tuple("fedcba")))

    def test_p10_plans_stay_as_they_are(self):
        plan = example_plan()
        best_order(plan)
        best_worth(plan)
        plan.worth(("a", "c", "b"))
        self.assertEqual(plan, example_plan())


class InterfaceTest(unittest.TestCase):

    def test_each_name_is_defined_here(self):
        for name in ["Plan", "best_worth", "best_order"]:
            self.assertEqual(getattr(plans, name).__module__, "tailpick.plans")
        for name in ["__init__", "rules", "durations", "costs", "whole", "ends", "worth", "__eq__"]:
            self.assertIn(name, vars(Plan))


if __name__ == "__main__":
    unittest.main()
