"""Points 2, 8, 10, 11 and 57 to 60: orders within a bound, and how much longer a job can take."""

import itertools
import unittest

from tailpick import bounds as module
from tailpick.bounds import bounds, count_within, earliest_end, latest_end, order_within, slack
from tailpick.costs import Cost
from tailpick.errors import BadNumber, UnknownName
from tailpick.plans import Plan, best_worth
from tailpick.rules import Rules
from tests.brute import best_of, loose_rules, orders_of, some_books, some_plans, worth_of
from tests.helpers import ODD_VALUES, ErrorCase, example_plan

BOOKS = [*some_books(57, 80), *some_books(58, 60, (3, 4, 4, 5), [loose_rules])]
PLANS = some_plans(57, BOOKS)
MOST = 10 ** 9
FREE = {name: Cost([]) for name in "abc"}
BOUND_CALLS = [order_within, count_within]
JOB_CALLS = [latest_end, earliest_end]


def within_of(plan, bound):
    """All orders within the bound in ascending order."""
    durations, costs = plan.durations(), plan.costs()
    return [order for order in orders_of(plan.rules) if worth_of(order, durations, costs) <= bound]


def ends_of(plan, job, bound):
    durations = plan.durations()
    return [
        sum(durations[other] for other in order[:order.index(job) + 1]) for order in within_of(plan, bound)
    ]


def longer(plan, job, by):
    """The plan with a duration that is longer by so much."""
    durations = plan.durations()
    return Plan(plan.rules, {**durations, job: durations[job] + by}, plan.costs())


def slack_of(plan, job, last):
    """The slack by trying out all numbers; from the last one on, all steps of all costs are over."""
    best = best_of(plan)
    for by in range(1, last + 1):
        if best_of(longer(plan, job, by)) != best:
            return by - 1
    return MOST - plan.durations()[job]


class WithinTest(ErrorCase):

    def test_example(self):
        plan = example_plan()
        self.assertEqual(
            [bounds(plan), order_within(plan, 2), count_within(plan, 4), latest_end(plan, "a", 4),
             earliest_end(plan, "b", 2)],
            [[2, 4], ("a", "c", "b"), 3, 5, 6])
        self.assertEqual([slack(plan, "a"), earliest_end(plan, "a", 1)], [2, None])

    def test_p57_against_all_orders(self):
        counts = {"none": 0, "some": 0, "all": 0}
        for plan in PLANS:
            for bound in range(7):
                orders = within_of(plan, bound)
                self.assertEqual(order_within(plan, bound), orders[0] if orders else None, (str(plan.rules), bound))
                self.assertEqual(count_within(plan, bound), len(orders), (str(plan.rules), bound))
                share = "all" if len(orders) == len(orders_of(plan.rules)) else "some"
                counts[share if orders else "none"] += 1
        self.assertGreater(min(counts.values()), 40)

    def test_p57_at_most_the_bound(self):
        plan = example_plan()
        self.assertEqual([count_within(plan, bound) for bound in range(6)], [0, 0, 1, 1, 3, 3])
        self.assertEqual([order_within(plan, bound) for bound in range(6)],
                         [None, None, ("a", "c", "b"), ("a", "c", "b"), ("a", "b", "c"), ("a", "b", "c")])
        self.assertEqual((count_within(plan, 10 ** 30), order_within(plan, 10 ** 30)), (3, ("a", "b", "c")))

    def test_p57_a_bound_of_zero(self):
        plan = Plan(example_plan().rules, example_plan().durations(), FREE)
        self.assertEqual((order_within(plan, 0), count_within(plan, 0)), (("a", "b", "c"), 3))

    def test_p2_p57_bounds_that_are_none(self):
        for value in [*ODD_VALUES, (), -2, -10 ** 30]:
            if type(value) is not int or value < 0:
                for call in BOUND_CALLS:
                    error = self.assert_error(BadNumber, {"value": value}, call, example_plan(), value)
                    self.assertIs(error.value, value)

    def test_p57_six_jobs(self):
        jobs = tuple("abcdef")
        costs = {job: Cost([(at + 1, at + 1) for at in range(40)]) for job in jobs}
        plan = Plan(Rules(jobs, [], []), {job: 1 for job in jobs}, {**costs, "f": Cost([(1, 1), (2, 9)])})
        self.assertEqual((order_within(plan, 5), count_within(plan, 5)), (None, 0))
        self.assertEqual((order_within(plan, 6), count_within(plan, 6)), (("f", "a", "b", "c", "d", "e"), 120))
        self.assertEqual((order_within(plan, 9), count_within(plan, 9)), (jobs, 720))


class EndTest(ErrorCase):

    def test_p58_against_all_orders(self):
        different = 0
        for plan in PLANS:
            for job, bound in itertools.product(plan.rules.jobs, [0, 2, 3, 5]):
                ends = ends_of(plan, job, bound)
                self.assertEqual(latest_end(plan, job, bound), max(ends, default=None), (str(plan.rules), job, bound))
                self.assertEqual(earliest_end(plan, job, bound), min(ends, default=None), (str(plan.rules), job, bound))
                different += bool(ends) and max(ends) != min(ends)
        self.assertGreater(different, 100)

    def test_p58_only_orders_within_the_bound_count(self):
        plan = example_plan()
        self.assertEqual([latest_end(plan, "b", bound) for bound in [1, 2, 4]], [None, 6, 6])
        self.assertEqual([earliest_end(plan, "b", bound) for bound in [1, 2, 4]], [None, 6, 3])
        self.assertEqual([latest_end(plan, "a", bound) for bound in [1, 2, 4]], [None, 2, 5])
        self.assertEqual([earliest_end(plan, "c", bound) for bound in [1, 2, 4]], [None, 3, 3])

    def test_p58_an_end_at_zero_is_no_none(self):
        plan = Plan(Rules.read("a"), {"a": 0}, {"a": Cost([])})
        self.assertEqual([latest_end(plan, "a", 0), earliest_end(plan, "a", 0)], [0, 0])
        self.assertEqual([type(latest_end(plan, "a", 0)), type(earliest_end(plan, "a", 0))], [int, int])

    def test_p58_names_that_are_no_jobs(self):
        for name in ["", "d", "A", "ab", "a b", "abc"]:
            for call in JOB_CALLS:
                self.assert_error(UnknownName, {"name": name}, call, example_plan(), name, 2)

    def test_p11_p58_the_name_comes_first(self):
        for call in JOB_CALLS:
            self.assert_error(UnknownName, {"name": "d"}, call, example_plan(), "d", -1)
            self.assert_error(UnknownName, {"name": "d"}, call, example_plan(), "d", None)

    def test_p2_p58_bounds_that_are_none(self):
        for value in [*ODD_VALUES, (), -2, -10 ** 30]:
            if type(value) is not int or value < 0:
                for call in JOB_CALLS:
                    error = self.assert_error(BadNumber, {"value": value}, call, example_plan(), "a", value)
                    self.assertIs(error.value, value)


class BoundsTest(unittest.TestCase):

    def test_p59_against_all_orders(self):
        several = 0
        for plan in PLANS:
            durations, costs = plan.durations(), plan.costs()
            worths = sorted({worth_of(order, durations, costs) for order in orders_of(plan.rules)})
            found = bounds(plan)
            self.assertEqual(found, worths, str(plan.rules))
            self.assertEqual(found[0], best_worth(plan))
            several += len(worths) > 1
        self.assertGreater(several, 40)

    def test_p59_each_worth_once(self):
        plan = Plan(Rules.read("a b c"), {name: 1 for name in "abc"}, {name: Cost([(3, 10 ** 30)]) for name in "abc"})
        self.assertEqual(bounds(plan), [10 ** 30])
        self.assertEqual(bounds(Plan(plan.rules, plan.durations(), FREE)), [0])

    def test_p59_ascending_as_numbers_are(self):
        # The last one counts: 9, 10 and 100.
        plan = Plan(Rules.read("a b c"), {name: 1 for name in "abc"},
                    {"a": Cost([(3, 100)]), "b": Cost([(3, 9)]), "c": Cost([(3, 10)])})
        self.assertEqual(bounds(plan), [9, 10, 100])

    def test_p10_p59_the_list_is_new(self):
        plan = example_plan()
        self.assertIs(type(bounds(plan)), list)
        bounds(plan).clear()
        self.assertEqual(bounds(plan), [2, 4])


class SlackTest(ErrorCase):

    def test_p60_by_trying_out(self):
        kinds = {"none": 0, "some": 0, "most": 0}
        for plan in PLANS:
            if len(plan.rules.jobs) <= 4:
                for job in plan.rules.jobs:
                    right = slack_of(plan, job, 16)
                    self.assertEqual(slack(plan, job), right, (str(plan.rules), job))
                    kinds["none" if right == 0 else "some" if right < 100 else "most"] += 1
        self.assertGreater(min(kinds.values()), 20)

    def test_p60_another_order_may_be_the_best_one_then(self):
        # With 2 more a can no longer be done ahead of b; with 7 more it is too late behind it, too.
        plan = Plan(Rules.read("a b"), {"a": 1, "b": 2}, {"a": Cost([(10, 5)]), "b": Cost([(5, 5)])})
        self.assertEqual([best_of(longer(plan, "a", by)) for by in [0, 2, 6, 7]], [0, 0, 0, 5])
        self.assertEqual(slack(plan, "a"), 6)
        self.assertEqual(slack(plan, "b"), 2)

    def test_p60_jobs_ahead_are_not_moved(self):
        plan = Plan(Rules.read("a b; b: a"), {"a": 4, "b": 3}, {"a": Cost([(5, 1)]), "b": Cost([(20, 1)])})
        self.assertEqual([slack(plan, "a"), slack(plan, "b")], [0, 12])

    def test_p60_no_more_than_the_longest_duration(self):
        for duration in [0, 1, 7, MOST - 1, MOST]:
            plan = Plan(Rules.read("a b"), {"a": duration, "b": 3}, {"a": Cost([]), "b": Cost([(3, 5)])})
            self.assertEqual(slack(plan, "a"), MOST - duration)
            flat = Plan(Rules.read("a b"), {"a": duration, "b": 3}, {"a": Cost([(0, 4)]), "b": Cost([(0, 9)])})
            self.assertEqual([slack(flat, "a"), slack(flat, "b")], [MOST - duration, MOST - 3])

    def test_p60_close_to_the_longest_duration(self):
        for last, right in [(MOST - 1, MOST - 8), (MOST, MOST - 7), (MOST + 1, MOST - 7), (7, 0), (8, 1)]:
            plan = Plan(Rules.read("a"), {"a": 7}, {"a": Cost([(last + 1, 1)])})
            self.assertEqual(slack(plan, "a"), right)

    def test_p60_the_longer_duration_is_one_that_plans_take(self):
        for plan in PLANS[:40]:
            for job in plan.rules.jobs:
                more = slack(plan, job)
                self.assertIs(type(more), int)
                self.assertEqual(best_worth(longer(plan, job, more)), best_worth(plan))
                if plan.durations()[job] + more < MOST:
                    self.assertGreater(best_worth(longer(plan, job, more + 1)), best_worth(plan))

    def test_p60_names_that_are_no_jobs(self):
        for name in ["", "d", "A", "ab", "a b", "abc"]:
            self.assert_error(UnknownName, {"name": name}, slack, example_plan(), name)


class ArgumentsTest(unittest.TestCase):

    def test_p10_by_name(self):
        plan = example_plan()
        self.assertEqual(order_within(bound=2, plan=plan), ("a", "c", "b"))
        self.assertEqual(count_within(bound=2, plan=plan), 1)
        self.assertEqual(latest_end(bound=4, job="a", plan=plan), 5)
        self.assertEqual(earliest_end(bound=4, job="a", plan=plan), 2)
        self.assertEqual(bounds(plan=plan), [2, 4])
        self.assertEqual(slack(job="a", plan=plan), 2)

    def test_p10_the_plan_stays_as_it_is(self):
        plan = example_plan()
        for call, more in [(order_within, [2]), (count_within, [2]), (latest_end, ["a", 2]), (earliest_end, ["a", 2]),
                           (bounds, []), (slack, ["a"])]:
            self.assertEqual(call(plan, *more), call(plan, *more))
        self.assertEqual(plan, example_plan())

    def test_each_function_is_defined_here(self):
        for name in ["order_within", "count_within", "latest_end", "earliest_end", "bounds", "slack"]:
            self.assertEqual(getattr(module, name).__module__, "tailpick.bounds")


if __name__ == "__main__":
    unittest.main()
