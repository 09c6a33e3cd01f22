"""Points 2, 5, 10, 11 and 17: rules with one need or limit more or less."""

import unittest

from tailpick.errors import BadCount, BadNumber, BadSet, NoOrder, UnknownName
from tailpick.orders import allowed_orders
from tailpick.rules import Rules
from tests.brute import keeps, orders_of, sets_of, some_books
from tests.helpers import ODD_VALUES, ErrorCase

TEXT = "a b c; b: a; c: a | b; a > b; b > c"


class MoreTest(ErrorCase):

    def test_p17_behind_the_others(self):
        rules = Rules.read(TEXT)
        self.assertEqual(
            str(rules.with_need("c", [("a", "b"), ()])), "a b c; b: a; c: a | b; c: a b | -; a > b; b > c")
        self.assertEqual(str(rules.with_limit("a", ("b", "c"))), "a b c; b: a; c: a | b; a > b; b > c; a > b c")

    def test_p17_the_rules_themselves_stay(self):
        rules = Rules.read(TEXT)
        self.assertIs(type(rules.with_need("c", [()])), Rules)
        rules.with_limit("a", ("c",))
        rules.without_need(0)
        rules.without_limit(0)
        self.assertEqual(str(rules), TEXT)

    def test_p10_what_is_passed_is_copied_and_not_changed(self):
        rules = Rules.read("a b")
        alternatives = [("a",), ()]
        more = rules.with_need("b", alternatives)
        self.assertEqual(alternatives, [("a",), ()])
        alternatives.clear()
        self.assertEqual(str(more), "a b; b: a | -")
        self.assertEqual(rules.with_need("b", (("a",), ())), more)

    def test_p10_by_name(self):
        rules = Rules.read(TEXT)
        self.assertEqual(rules.with_need(alternatives=[("a",)], job="c"), rules.with_need("c", [("a",)]))
        self.assertEqual(rules.with_limit(wanted=("c",), job="a"), rules.with_limit("a", ("c",)))
        self.assertEqual(rules.without_need(number=1), rules.without_need(1))
        self.assertEqual(rules.without_limit(number=1), rules.without_limit(1))

    def test_p11_p17_errors_of_with_need(self):
        rules = Rules.read(TEXT)
        self.assert_error(UnknownName, {"name": "x"}, rules.with_need, "x", [])
        for count in [0, 7]:
            self.assert_error(BadCount, {"count": count}, rules.with_need, "c", [None] * count)
        for value in [*ODD_VALUES, ("c",)]:
            error = self.assert_error(BadSet, {"value": value}, rules.with_need, "c", [(), value, ("b", "a")])
            self.assertIs(error.value, value)
        self.assert_error(NoOrder, {"value": ()}, rules.with_need, "a", [("b",)])
        self.assertEqual(str(rules), TEXT)

    def test_p11_p17_errors_of_with_limit(self):
        rules = Rules.read(TEXT)
        self.assert_error(UnknownName, {"name": "x"}, rules.with_limit, "x", ())
        for value in [*ODD_VALUES, (), ("c",)]:
            error = self.assert_error(BadSet, {"value": value}, rules.with_limit, "c", value)
            self.assertIs(error.value, value)
        self.assert_error(NoOrder, {"value": ("a",)}, rules.with_limit, "c", ("b",))
        self.assertEqual(str(rules), TEXT)

    def test_p11_p17_the_thirteenth_counts_ahead_of_what_is_wrong_with_it(self):
        rules = Rules(["a", "b"], [("b", [("a",)])] * 12, [("a", ("b",))] * 12)
        self.assert_error(BadCount, {"count": 13}, rules.with_need, "x", [])
        self.assert_error(BadCount, {"count": 13}, rules.with_limit, "x", ())
        self.assertEqual(len(rules.without_need(3).with_need("b", [()]).needs), 12)
        self.assertEqual(len(rules.without_limit(3).with_limit("a", ("b",)).limits), 12)


class LessTest(ErrorCase):

    def test_p17_counted_from_0(self):
        rules = Rules.read(TEXT)
        self.assertEqual(str(rules.without_need(0)), "a b c; c: a | b; a > b; b > c")
        self.assertEqual(str(rules.without_need(1)), "a b c; b: a; a > b; b > c")
        self.assertEqual(str(rules.without_limit(0)), "a b c; b: a; c: a | b; b > c")
        self.assertEqual(str(rules.without_limit(1)), "a b c; b: a; c: a | b; a > b")
        three = Rules.read("a b; b: a; b: -; b: a | -; a > b")
        self.assertEqual(str(three.without_need(1)), "a b; b: a; b: a | -; a > b")

    def test_p2_p17_values_that_are_no_such_numbers(self):
        rules = Rules.read(TEXT)
        wrong = [value for value in ODD_VALUES if type(value) is not int]
        for value in [*wrong, 2, 3, -1, -2, 10 ** 30, -10 ** 30, 10 ** 6000, "0", "1", (0,), [0], {0: 0}]:
            for call in [rules.without_need, rules.without_limit]:
                error = self.assert_error(BadNumber, {"value": value}, call, value)
                self.assertIs(error.value, value)
        self.assertEqual(str(rules), TEXT)

    def test_p17_nothing_to_leave_out(self):
        rules = Rules.read("a b; b: a")
        self.assert_error(BadNumber, {"value": 0}, rules.without_limit, 0)
        self.assertEqual(str(rules.without_need(0)), "a b")
        self.assert_error(BadNumber, {"value": 0}, rules.without_need(0).without_need, 0)

    def test_example(self):
        rules = Rules(["c", "a", "b"], [("c", [("a", "b"), ()])], [("a", ("b", "c"))])
        self.assertEqual(str(rules.without_need(0)), "a b c; a > b c")


class OrdersTest(ErrorCase):

    def test_p5_p17_one_need_or_limit_more_leaves_just_the_orders_that_keep_it(self):
        for rules in some_books(17, 40, (2, 3, 4)):
            job, *others = rules.jobs
            for wanted in sets_of(others):
                need = (job, [wanted, tuple(others[:1])])
                self.assert_left(rules, rules.with_need, need, [need], [])
                if wanted:
                    self.assert_left(rules, rules.with_limit, (job, wanted), [], [(job, wanted)])

    def assert_left(self, rules, call, arguments, needs, limits):
        left = [order for order in allowed_orders(rules) if keeps(order, needs, limits)]
        if left:
            self.assertEqual(list(allowed_orders(call(*arguments))), left)
        else:
            with self.assertRaises(NoOrder):
                call(*arguments)

    def test_p5_p17_one_need_or_limit_less(self):
        more = 0
        for rules in some_books(18, 100):
            less = [rules.without_need(number) for number in range(len(rules.needs))]
            less += [rules.without_limit(number) for number in range(len(rules.limits))]
            for other in less:
                orders = list(allowed_orders(other))
                self.assertEqual(orders, orders_of(other))
                self.assertLessEqual(set(allowed_orders(rules)), set(orders))
                more += len(orders) > len(list(allowed_orders(rules)))
        self.assertGreater(more, 30)


if __name__ == "__main__":
    unittest.main()
