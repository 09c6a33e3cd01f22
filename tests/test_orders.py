"""Points 4 to 6, 10, 11 and 20 to 25: sets, allowed sets and allowed orders."""

import inspect
import itertools
import unittest

from tailpick import orders
from tailpick.errors import BadOrder, BadSet
from tailpick.orders import (
    all_sets, allowed_orders, allowed_sets, count_orders, first_barred, is_allowed, is_order, is_set, last_jobs,
    next_jobs, on_the_way)
from tailpick.rules import Rules
from tests.brute import NAMES, allowed_of, beginnings_of, orders_of, sets_of, some_books, ways_of, without
from tests.helpers import ODD_VALUES, ErrorCase

WILD = Rules.read("x y z; y: x | z")
CHAIN = Rules.read("a b c; b: a; c: b")
BOOKS = some_books(20, 150)

# c can be done first, but then b, which needs a, would have to be done before a.
DEAD_END = Rules.read("a b c; b: a; b > a c")


class SetsTest(ErrorCase):

    def test_p20_all_sets_in_order(self):
        self.assertEqual(all_sets(("a",)), [(), ("a",)])
        self.assertEqual(all_sets(("a", "b", "c")), [
            (), ("a",), ("b",), ("c",), ("a", "b"), ("a", "c"), ("b", "c"), ("a", "b", "c")])
        for count in range(1, 7):
            jobs = tuple(NAMES[:count])
            self.assertEqual(all_sets(jobs), sets_of(jobs))
            self.assertEqual(len(all_sets(jobs)), 2 ** count)

    def test_p4_p20_names_are_ordered_as_strings_are(self):
        self.assertEqual(all_sets(("a", "a10", "a9"))[4:7], [("a", "a10"), ("a", "a9"), ("a10", "a9")])

    def test_p20_kinds(self):
        found = all_sets(("a", "b"))
        self.assertIs(type(found), list)
        self.assertEqual({type(wanted) for wanted in found}, {tuple})

    def test_p10_a_new_list_each_time(self):
        first = all_sets(("a", "b"))
        first.clear()
        self.assertEqual(len(all_sets(("a", "b"))), 4)

    def test_p20_is_set(self):
        jobs = ("a", "b", "c", "zz")
        for wanted in sets_of(jobs):
            self.assertIs(is_set(jobs, wanted), True)
            self.assertIs(is_set(jobs, list(wanted)), False)
        for order in itertools.permutations(jobs, 2):
            self.assertIs(is_set(jobs, order), order[0] < order[1])

    def test_p2_p4_p20_any_value_may_be_asked_about(self):
        for value in ODD_VALUES:
            self.assertIs(is_set(("a", "b", "c"), value), False)
            self.assertIs(is_set(("a",), value), False)
        for value in ["ab", "abc", ("a", "b", "b"), ("ab",), ("a", ()), ["a", "b"], {"a": 1, "b": 2}, ("a", "d")]:
            self.assertIs(is_set(("a", "b", "c"), value), False)

    def test_p10_by_name(self):
        self.assertEqual(all_sets(jobs=("a",)), [(), ("a",)])
        self.assertIs(is_set(value=("a",), jobs=("a", "b")), True)


class AllowedSetsTest(ErrorCase):

    def test_example(self):
        self.assertEqual(allowed_sets(WILD), [
            (), ("x",), ("z",), ("x", "y"), ("x", "z"), ("y", "z"), ("x", "y", "z")])

    def test_p21_chain_and_no_rules(self):
        self.assertEqual(allowed_sets(CHAIN), [(), ("a",), ("a", "b"), ("a", "b", "c")])
        self.assertEqual(allowed_sets(Rules(NAMES, [], [])), sets_of(NAMES))
        self.assertEqual(allowed_sets(Rules(["b"], [], [])), [(), ("b",)])

    def test_p5_p21_a_set_that_can_be_reached_but_leads_nowhere_is_not_allowed(self):
        self.assertEqual(allowed_sets(DEAD_END), [(), ("a",), ("a", "b"), ("a", "b", "c")])
        self.assertIs(is_allowed(DEAD_END, ("c",)), False)
        self.assertEqual(next_jobs(DEAD_END, ()), ("a",))
        self.assertEqual(list(allowed_orders(DEAD_END)), [("a", "b", "c")])
        self.assertEqual(first_barred(DEAD_END, ("c", "b", "a")), ("c",))

    def test_p5_p21_against_all_orders(self):
        for rules in BOOKS:
            self.assertEqual(allowed_sets(rules), allowed_of(rules), str(rules))

    def test_p21_is_allowed(self):
        for rules in BOOKS[:60]:
            allowed = allowed_of(rules)
            for wanted in sets_of(rules.jobs):
                self.assertIs(is_allowed(rules, wanted), wanted in allowed, str(rules))
                self.assertIs(is_allowed(rules, list(wanted)), False)

    def test_p2_p21_any_value_may_be_asked_about(self):
        rules = Rules(["a", "b", "c"], [], [])
        for value in [*ODD_VALUES, "ab", ["a", "b"], ("a", "b", "c", "a"), ("c", "b", "a"), ("a", "d")]:
            self.assertIs(is_allowed(rules, value), False)

    def test_p10_a_new_list_each_time(self):
        first = allowed_sets(WILD)
        self.assertIs(type(first), list)
        first.append(("y",))
        first.remove(())
        self.assertEqual(len(allowed_sets(WILD)), 7)
        self.assertIs(is_allowed(WILD, ("y",)), False)
        self.assertIs(is_allowed(WILD, ()), True)

    def test_p10_by_name(self):
        self.assertEqual(allowed_sets(rules=CHAIN), allowed_sets(CHAIN))
        self.assertIs(is_allowed(value=("a",), rules=CHAIN), True)


class NeighboursTest(ErrorCase):

    def test_example(self):
        self.assertEqual(last_jobs(WILD, ("x", "y")), ("y",))
        self.assertEqual(next_jobs(WILD, ("z",)), ("x", "y"))

    def test_p22_the_ends(self):
        for rules in [WILD, CHAIN, *BOOKS[:40]]:
            self.assertEqual(last_jobs(rules, ()), ())
            self.assertEqual(next_jobs(rules, rules.jobs), ())

    def test_p6_p22_what_may_be_last(self):
        # Both x and z meet the need of y, so each of them can come last, but not both behind y.
        self.assertEqual(last_jobs(WILD, ("x", "y", "z")), ("x", "y", "z"))
        self.assertEqual(last_jobs(WILD, ("y", "z")), ("y",))
        self.assertEqual(last_jobs(CHAIN, ("a", "b", "c")), ("c",))
        # b is kept before the last of a and c, but b without c is no beginning.
        self.assertEqual(last_jobs(DEAD_END, ("a", "b", "c")), ("c",))

    def test_p6_p22_against_all_orders(self):
        for rules in BOOKS:
            allowed = allowed_of(rules)
            for wanted in allowed:
                last = tuple(job for job in wanted if without(wanted, job) in allowed)
                self.assertEqual(last_jobs(rules, wanted), last, str(rules))
                after = tuple(
                    job for job in rules.jobs if job not in wanted and tuple(sorted((*wanted, job))) in allowed)
                self.assertEqual(next_jobs(rules, wanted), after, str(rules))

    def test_p11_p22_values_that_are_no_allowed_sets(self):
        for value in [*ODD_VALUES, ("b",), ("c",), ("a", "c"), ["a"], ("a", "b", "c", "d")]:
            for call in [last_jobs, next_jobs]:
                error = self.assert_error(BadSet, {"value": value}, call, CHAIN, value)
                self.assertIs(error.value, value)

    def test_p10_by_name(self):
        self.assertEqual(last_jobs(wanted=("a",), rules=CHAIN), ("a",))
        self.assertEqual(next_jobs(wanted=("a",), rules=CHAIN), ("b",))


class OrdersTest(ErrorCase):

    def test_example(self):
        self.assertEqual(count_orders(WILD), 4)
        self.assertEqual(list(allowed_orders(WILD))[0], ("x", "y", "z"))
        self.assertEqual(first_barred(WILD, ("y", "x", "z")), ("y",))

    def test_p23_a_generator(self):
        self.assertTrue(inspect.isgeneratorfunction(allowed_orders))
        self.assertTrue(inspect.isgenerator(allowed_orders(WILD)))
        first = allowed_orders(WILD)
        second = allowed_orders(WILD)
        self.assertEqual([next(first), next(second), next(first)], [("x", "y", "z"), ("x", "y", "z"), ("x", "z", "y")])

    def test_p4_p23_against_all_orders(self):
        for rules in [Rules(["q"], [], []), Rules(NAMES[::-1], [], []), WILD, CHAIN, DEAD_END, *BOOKS]:
            wanted = orders_of(rules)
            self.assertEqual(list(allowed_orders(rules)), wanted, str(rules))
            self.assertEqual(count_orders(rules), len(wanted), str(rules))
        self.assertEqual(count_orders(Rules(NAMES, [], [])), 720)

    def test_p6_allowed_orders_are_those_all_of_whose_beginnings_are_allowed(self):
        for rules in BOOKS:
            allowed = allowed_sets(rules)
            self.assertEqual(list(allowed_orders(rules)), [
                order for order in itertools.permutations(rules.jobs)
                if all(done in allowed for done in beginnings_of(order))])

    def test_p24_is_order_and_first_barred(self):
        for rules in [WILD, CHAIN, DEAD_END, *BOOKS]:
            good, allowed = orders_of(rules), allowed_of(rules)
            for order in itertools.permutations(rules.jobs):
                barred = [done for done in beginnings_of(order) if done not in allowed]
                self.assertIs(is_order(rules, order), order in good, str(rules))
                self.assertEqual(first_barred(rules, order), barred[0] if barred else None, str(rules))

    def test_p2_p24_values_that_are_no_orders_of_the_jobs(self):
        rules = Rules(["a", "b", "c"], [], [])
        wrong = [*ODD_VALUES, (), ("a", "b"), ("a", "b", "c", "a"), ("a", "a", "b", "c"), ["a", "b", "c"], "abc",
                 ("a", "b", "d"), ("a", "b", "b"), ("a", "b", "c", "d"), ("a", "b", ["c"]), ("a", "b", None)]
        for value in wrong:
            self.assertIs(is_order(rules, value), False)
            error = self.assert_error(BadOrder, {"value": value}, first_barred, rules, value)
            self.assertIs(error.value, value)

    def test_p10_by_name(self):
        self.assertEqual(list(allowed_orders(rules=CHAIN)), [("a", "b", "c")])
        self.assertEqual(count_orders(rules=CHAIN), 1)
        self.assertIs(is_order(value=("a", "b", "c"), rules=CHAIN), True)
        self.assertEqual(first_barred(order=("b", "a", "c"), rules=CHAIN), ("b",))


class WayTest(ErrorCase):

    def test_example(self):
        self.assertIs(on_the_way(WILD, ("x",), ("y", "z")), False)

    def test_p6_p25_against_all_orders(self):
        for rules in [WILD, CHAIN, DEAD_END, *BOOKS]:
            allowed, ways = allowed_of(rules), ways_of(rules)
            for inner, outer in itertools.product(allowed, repeat=2):
                self.assertIs(on_the_way(rules, inner, outer), (inner, outer) in ways, (str(rules), inner, outer))

    def test_p6_p25_edges(self):
        for wanted in allowed_sets(WILD):
            self.assertIs(on_the_way(WILD, wanted, wanted), True)
            self.assertIs(on_the_way(WILD, (), wanted), True)
            self.assertIs(on_the_way(WILD, wanted, ("x", "y", "z")), True)
            self.assertIs(on_the_way(WILD, ("x", "y", "z"), wanted), wanted == ("x", "y", "z"))

    def test_p6_p25_lying_in_it_is_not_enough(self):
        # Behind c, f must be done before b, and then it needs a.
        rules = Rules.read("a b c f; f: b | a; f > b c")
        for wanted in [("c",), ("b", "c", "f")]:
            self.assertIs(is_allowed(rules, wanted), True)
        self.assertIs(on_the_way(rules, ("c",), ("b", "c", "f")), False)
        self.assertIs(on_the_way(rules, ("b",), ("b", "c", "f")), True)
        self.assertIs(on_the_way(rules, ("c",), ("a", "b", "c", "f")), True)

    def test_p11_p25_inner_is_looked_at_first(self):
        for value in [*ODD_VALUES, ("b",), ["a"], ("a", "c")]:
            error = self.assert_error(BadSet, {"value": value}, on_the_way, CHAIN, value, ("c",))
            self.assertIs(error.value, value)
            error = self.assert_error(BadSet, {"value": value}, on_the_way, CHAIN, ("a",), value)
            self.assertIs(error.value, value)

    def test_p10_by_name(self):
        self.assertIs(on_the_way(CHAIN, outer=("a", "b"), inner=("a",)), True)
        self.assertIs(on_the_way(CHAIN, outer=("a",), inner=("a", "b")), False)


class InterfaceTest(unittest.TestCase):

    def test_each_function_is_defined_here(self):
        for name in ["all_sets", "allowed_sets", "is_set", "is_allowed", "is_order", "on_the_way", "last_jobs",
                     "next_jobs", "allowed_orders", "count_orders", "first_barred"]:
            self.assertEqual(getattr(orders, name).__module__, "tailpick.orders")


if __name__ == "__main__":
    unittest.main()
