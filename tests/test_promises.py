"""Points 6, 7, 9, 10, 29, 51 and 54 over all books of one, two and three jobs, and over many of more jobs."""

import functools
import itertools
import random
import unittest

from tailpick.costs import Cost
from tailpick.errors import NoOrder
from tailpick.floors import check_floor, floor
from tailpick.likeness import alike, parting, within
from tailpick.orders import allowed_orders, allowed_sets
from tailpick.plain import must_precede, needless, plain_needs, plain_rules, slim
from tailpick.plans import Plan
from tailpick.rules import Rules
from tailpick.tails import tail_order, tail_worth
from tailpick.taming import is_tame
from tailpick.verdicts import check_verdict, check_wild, judge, wild_plan
from tests.brute import (
    NAMES, allowed_of, beginnings_of, loose_rules, orders_of, sets_of, some_books, some_plans, triples_of, worth_of)


def alternatives_of(others):
    """All lists of sets none of which lies in another one; more alternatives say nothing more."""
    sets = sets_of(others)
    return [
        chosen for count in range(1, len(sets) + 1) for chosen in itertools.combinations(sets, count)
        if not any(set(one) < set(other) for one, other in itertools.permutations(chosen, 2))
    ]


def ways_for(job, others):
    """All needs and limits of one job that differ in what they say."""
    lists = alternatives_of(others)
    needs = [[] if chosen == ((),) else [(job, list(chosen))] for chosen in lists]
    limits = [[]] + [[(job, wanted) for wanted in chosen] for chosen in lists if () not in chosen]
    return list(itertools.product(needs, limits))


@functools.cache
def all_books(count):
    """All books of so many jobs, but those that say the same job by job."""
    jobs = NAMES[:count]
    found = []
    for ways in itertools.product(*[ways_for(job, [name for name in jobs if name != job]) for job in jobs]):
        try:
            found.append(Rules(jobs, sum([needs for needs, _ in ways], []), sum([limits for _, limits in ways], [])))
        except NoOrder:
            pass
    return found


@functools.cache
def one_of_each(count):
    """One book of so many jobs for each list of allowed orders that there is."""
    return list({tuple(orders_of(rules)): rules for rules in all_books(count)}.values())


def closed(rules):
    """Whether any two allowed sets together are an allowed set."""
    allowed = allowed_of(rules)
    return all(tuple(sorted({*one, *other})) in allowed for one, other in itertools.combinations(allowed, 2))


SMALL = [rules for count in [1, 2, 3] for rules in one_of_each(count)]
GREATER = [*some_books(9, 60, (4, 5)), *some_books(10, 60, (4, 4, 5), [loose_rules]), *some_books(11, 4, (6,))]


class SmallBooksTest(unittest.TestCase):

    def test_how_many_books_there_are(self):
        self.assertEqual([len(all_books(count)) for count in [1, 2, 3]], [1, 7, 1078])
        self.assertEqual([len(one_of_each(count)) for count in [1, 2, 3]], [1, 3, 28])

    def test_p6_p9_the_same_orders_exactly_with_the_same_allowed_sets(self):
        for count in [1, 2, 3]:
            sets, orders = {}, {}
            for rules in all_books(count):
                allowed, good = tuple(allowed_sets(rules)), tuple(allowed_orders(rules))
                self.assertEqual((list(allowed), list(good)), (allowed_of(rules), orders_of(rules)), str(rules))
                self.assertEqual(sets.setdefault(good, allowed), allowed, str(rules))
                self.assertEqual(orders.setdefault(allowed, good), good, str(rules))

    def test_p54_p55_alike_and_within(self):
        for one, other in itertools.product(one_of_each(3), all_books(3)[::3]):
            ones, others = orders_of(one), orders_of(other)
            self.assertIs(alike(one, other), ones == others)
            self.assertIs(within(one, other), set(ones) <= set(others))
            apart = sorted(set(ones) ^ set(others))
            self.assertEqual(parting(one, other), (apart[0], int(apart[0] not in ones)) if apart else None)

    def test_p7_p9_tame_or_wild(self):
        for count in [1, 2, 3]:
            for rules in all_books(count):
                self.assertIs(is_tame(rules), not triples_of(rules), str(rules))
                self.assertIs(check_verdict(rules, judge(rules)), True)
        self.assertEqual([sum(not is_tame(rules) for rules in one_of_each(count)) for count in [1, 2, 3]], [0, 0, 6])

    def test_p9_p50_p51_plain_exactly_if_tame_and_closed(self):
        for count in [1, 2, 3]:
            for rules in all_books(count):
                plain = plain_needs(rules)
                self.assertIs(plain is not None, not triples_of(rules) and closed(rules), str(rules))
                if plain is not None:
                    self.assertEqual(plain, must_precede(rules))
                    self.assertEqual(orders_of(plain_rules(plain)), orders_of(rules))

    def test_p9_plain_rules_are_all_that_say_one_set_for_each_job(self):
        # All rules with one set of jobs for each job, found without asking for plain needs.
        found = set()
        for sets in itertools.product(*[sets_of([name for name in "abc" if name != job]) for job in "abc"]):
            try:
                found.add(tuple(orders_of(plain_rules(dict(zip("abc", sets))))))
            except NoOrder:
                pass
        for rules in one_of_each(3):
            self.assertIs(plain_needs(rules) is not None, tuple(orders_of(rules)) in found, str(rules))

    def test_p29_p51_rules_without_limits(self):
        for rules in all_books(3):
            if not rules.limits:
                self.assertIs(is_tame(rules), plain_needs(rules) is not None)
                if all(len(alternatives) == 1 for _, alternatives in rules.needs):
                    self.assertIs(is_tame(rules), True)

    def test_p53_slim(self):
        for rules in all_books(3)[::5]:
            found = slim(rules)
            self.assertEqual(orders_of(found), orders_of(rules))
            self.assertEqual(needless(found), ([], []))


class PlansTest(unittest.TestCase):

    def assert_promises(self, plan):
        """What the first two promises say of a plan."""
        rules, durations, costs = plan.rules, plan.durations(), plan.costs()
        best = min(worth_of(order, durations, costs) for order in orders_of(rules))
        self.assertIn(tail_order(plan), orders_of(rules))
        if is_tame(rules):
            self.assertEqual(tail_worth(plan), best, str(rules))
            self.assertIs(check_floor(plan, floor(plan)), True)
            self.assertEqual(floor(plan)[1], best)
            self.assertIn(floor(plan)[0], beginnings_of(tail_order(plan)))
        else:
            self.assertGreaterEqual(tail_worth(plan), best, str(rules))

    def test_p9_tame_books_and_all_small_plans_with_deadlines(self):
        # Whether an order is within a bound is a matter of deadlines: each job costs 0 up to one, and 1 from then on.
        deadlines = [Cost([]), Cost([(1, 1)]), Cost([(2, 1)]), Cost([(4, 1)])]
        for rules in SMALL:
            count = len(rules.jobs)
            for lengths in [(1, 1, 1), (1, 2, 1), (0, 2, 1), (3, 1, 1)]:
                for chosen in itertools.product(deadlines, repeat=count):
                    durations = dict(zip(rules.jobs, lengths))
                    self.assert_promises(Plan(rules, durations, dict(zip(rules.jobs, chosen))))

    def test_p9_some_plans(self):
        for plan in [*some_plans(90, SMALL * 6), *some_plans(91, GREATER * 2)]:
            self.assert_promises(plan)

    def test_p9_wild_books_have_a_plan_that_shows_it(self):
        wild = [rules for rules in [*SMALL, *GREATER] if triples_of(rules)]
        self.assertGreater(len(wild), 20)
        for rules in wild:
            plan, order = wild_plan(rules)
            self.assertIs(check_wild(rules, plan, order), True)
            self.assertIn(order, orders_of(rules))
            self.assertLess(worth_of(order, plan.durations(), plan.costs()), tail_worth(plan))


class GreaterBooksTest(unittest.TestCase):

    def test_p9_p51_plain_exactly_if_tame_and_closed(self):
        for rules in GREATER:
            self.assertIs(plain_needs(rules) is not None, not triples_of(rules) and closed(rules), str(rules))

    def test_p9_p54_the_same_orders_exactly_with_the_same_allowed_sets(self):
        for one, other in itertools.combinations(GREATER, 2):
            if one.jobs == other.jobs:
                self.assertEqual(alike(one, other), orders_of(one) == orders_of(other))
        for rules in GREATER:
            self.assertIs(alike(rules, slim(rules)), True)


class SameAnswerTest(unittest.TestCase):

    def test_p10_a_tuple_instead_of_a_list(self):
        for rules in [*SMALL, *GREATER]:
            lists = Rules(list(rules.jobs), [(job, list(found)) for job, found in rules.needs], list(rules.limits))
            jobs = tuple(reversed(rules.jobs))
            tuples = Rules(jobs, rules.needs, rules.limits)
            self.assertEqual(lists, tuples)
            for call in [allowed_sets, is_tame, must_precede, plain_needs, needless, slim]:
                self.assertEqual(call(lists), call(tuples))
            self.assertEqual(judge(lists).paper, judge(tuples).paper)

    def test_p10_the_order_of_keys_has_no_meaning(self):
        source = random.Random(10)
        for plan in some_plans(92, GREATER):
            jobs = source.sample(plan.rules.jobs, len(plan.rules.jobs))
            durations, costs = ({job: table[job] for job in jobs} for table in [plan.durations(), plan.costs()])
            other = Plan(plan.rules, durations, costs)
            self.assertEqual((tail_order(other), tail_worth(other)), (tail_order(plan), tail_worth(plan)))
            if is_tame(plan.rules):
                self.assertEqual(floor(other), floor(plan))


if __name__ == "__main__":
    unittest.main()
