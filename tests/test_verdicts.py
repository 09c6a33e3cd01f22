"""Points 2, 7, 9 to 11 and 47 to 49: plans that show that rules are wild, and verdicts."""

import itertools
import unittest

from tailpick import verdicts
from tailpick.costs import Cost
from tailpick.errors import IsTame
from tailpick.plans import Plan
from tailpick.rules import Rules
from tailpick.tails import tail_order, tail_worth
from tailpick.verdicts import Verdict, check_verdict, check_wild, judge, wild_plan
from tests.brute import (
    loose_rules, orders_of, sets_of, some_books, some_plans, tail_of, triples_of, worth_of)
from tests.helpers import ODD_VALUES, ErrorCase, example_plan

BOOKS = [*some_books(47, 80), *some_books(48, 160, (3, 4, 4, 5), [loose_rules]),
         *some_books(49, 6, (6,), [loose_rules])]
TAME_BOOKS = [rules for rules in BOOKS if not triples_of(rules)]
WILD_BOOKS = [rules for rules in BOOKS if triples_of(rules)]
TAME = Rules.read("x y z; y: x")
WILD = Rules.read("x y z; y: x | z")
FIRST = (("x", "y", "z"), "x", ("x", "y"))
SECOND = (("x", "y", "z"), "z", ("y", "z"))


class WildPlanTest(ErrorCase):

    def test_example(self):
        plan, order = wild_plan(WILD)
        self.assertEqual([check_wild(WILD, plan, order), plan.worth(order) < 2, tail_worth(plan)], [True, True, 2])
        self.assert_error(IsTame, {}, wild_plan, Rules.read("x y; y: x"))

    def test_p9_p47_against_the_words(self):
        self.assertGreater(len(WILD_BOOKS), 40)
        for rules in WILD_BOOKS:
            plan, order = wild_plan(rules)
            durations, costs = plan.durations(), plan.costs()
            self.assertEqual(plan.rules, rules)
            self.assertIn(order, orders_of(rules))
            self.assertTrue(all(durations[job] >= 1 for job in rules.jobs), str(rules))
            self.assertIn(worth_of(order, durations, costs), [0, 1], str(rules))
            self.assertEqual(worth_of(tail_of(plan), durations, costs), 2, str(rules))

    def test_p47_tame_rules(self):
        self.assertGreater(len(TAME_BOOKS), 100)
        for rules in TAME_BOOKS:
            self.assert_error(IsTame, {}, wild_plan, rules)
        for text in ["a", "a b c d e f", "x y z; y: x | z; x > y", "a b c; c: a b"]:
            self.assert_error(IsTame, {}, wild_plan, Rules.read(text))

    def test_p47_six_jobs_some_of_them_outside_of_the_set(self):
        for text in ["a b c d e f; d: a | b", "a b c d e f; f: d | e", "a b c d e f; c: a b | b d; e: c",
                     "a b c d e f; b: a | f; c: b; d: c; e: d"]:
            rules = Rules.read(text)
            plan, order = wild_plan(rules)
            self.assertEqual((plan.rules, tail_worth(plan)), (rules, 2))
            self.assertLessEqual(plan.worth(order), 1)

    def test_p47_made_from_the_first_triple_as_the_point_says(self):
        plan, order = wild_plan(WILD)
        self.assertEqual(order, ("x", "y", "z"))
        self.assertEqual(plan.durations(), {"x": 1, "y": 1, "z": 4})
        self.assertEqual({job: str(cost) for job, cost in plan.costs().items()},
                         {"x": "7:2", "y": "3:2", "z": "6:1 7:2"})
        plan, order = wild_plan(Rules.read("a b c d; d: a | b"))
        self.assertEqual(order, ("a", "d", "b", "c"))
        self.assertEqual(plan.durations(), {"a": 1, "b": 5, "c": 1, "d": 1})
        self.assertEqual({job: str(cost) for job, cost in plan.costs().items()},
                         {"a": "8:2", "b": "7:1 8:2", "c": "free", "d": "3:2"})

    def test_p47_kinds(self):
        found = wild_plan(WILD)
        self.assertEqual([type(found), type(found[0]), type(found[1])], [tuple, Plan, tuple])
        self.assertTrue(all(type(duration) is int for duration in found[0].durations().values()))

    def test_p10_p47_the_same_for_equal_rules(self):
        for rules in WILD_BOOKS:
            self.assertEqual(wild_plan(rules), wild_plan(Rules.read(str(rules))))


class CheckWildTest(unittest.TestCase):

    def test_p48_against_all_orders(self):
        for plan in [*some_plans(48, BOOKS[:150]), *[wild_plan(rules)[0] for rules in WILD_BOOKS]]:
            rules, durations, costs = plan.rules, plan.durations(), plan.costs()
            below = worth_of(tail_of(plan), durations, costs)
            good = [order for order in orders_of(rules) if worth_of(order, durations, costs) < below]
            for order in itertools.permutations(rules.jobs):
                self.assertIs(check_wild(rules, plan, order), order in good, (str(rules), order))

    def test_p48_an_order_that_is_just_as_good_shows_nothing(self):
        plan, order = wild_plan(WILD)
        self.assertIs(check_wild(WILD, plan, order), True)
        self.assertIs(check_wild(WILD, plan, tail_order(plan)), False)
        free = Plan(WILD, plan.durations(), {name: Cost([]) for name in "xyz"})
        self.assertIs(check_wild(WILD, free, order), False)

    def test_p48_the_rules_of_the_plan_have_to_be_equal(self):
        plan, order = wild_plan(WILD)
        self.assertIs(check_wild(Rules(["z", "y", "x"], [("y", [("x",), ("z",)])], []), plan, order), True)
        for text in ["x y z", "x y z; y: x | z; y: x | z", "x y z; y: x | z | -", "x y z; y: z | x",
                     "x y z; y: x | z; y > x z", "w x y z; y: x | z", "a b c; b: a | c"]:
            self.assertIs(check_wild(Rules.read(text), plan, order), False, text)

    def test_p48_tame_rules(self):
        plan = example_plan()
        for order in itertools.permutations(plan.rules.jobs):
            self.assertIs(check_wild(plan.rules, plan, order), False)

    def test_p2_p48_the_order_may_be_any_value(self):
        plan, order = wild_plan(WILD)
        for value in [*ODD_VALUES, (), list(order), order[:2], (*order, order[0]), (*order[:2], [order[2]]), (order,),
                      [order], "".join(order), {name: True for name in order}, (*order[:2], None), ("y", "x", "z")]:
            self.assertIs(check_wild(WILD, plan, value), False, value)
            self.assertIs(check_wild(TAME, plan, value), False, value)


class VerdictTest(unittest.TestCase):

    def test_p49_its_properties_are_the_arguments(self):
        for value in [*ODD_VALUES, (), FIRST, [], [[]], {"a": {"b": []}}, ([], {}), [({"a": ([],)},)]]:
            for verdict in [Verdict("tame", value), Verdict(value, value), Verdict(kind="wild", paper=value)]:
                self.assertEqual(verdict.paper, value)
                self.assertIs(type(verdict.paper), type(value))
                self.assertEqual(repr(verdict.paper), repr(value))
            self.assertEqual(repr(Verdict(value, None).kind), repr(value))
        self.assertEqual([Verdict("tame", None).kind, Verdict("wild", None).kind, Verdict("", None).kind],
                         ["tame", "wild", ""])

    def test_p10_p49_later_changes_have_no_effect(self):
        def value():
            return [1, [2, {"a": [3]}], {"b": ([4], {"c": 5})}, ([6], "d")]

        given = value()
        verdict = Verdict(given, given)
        self.assertEqual(given, value())
        given[1][1]["a"].append(0)
        given[2]["b"][0].append(0)
        given[2]["b"][1]["c"] = 0
        given[3][0].clear()
        given.append(0)
        self.assertEqual((verdict.kind, verdict.paper), (value(), value()))

    def test_p10_p49_new_ones_each_time(self):
        def value():
            return {"a": [1, {"b": [2]}], "c": ([3], ({"d": [4]},))}

        verdict = Verdict(value(), value())
        for take in [lambda: verdict.kind, lambda: verdict.paper]:
            found = take()
            found["a"][1]["b"].append(0)
            found["a"].append(0)
            found["c"][0].append(0)
            found["c"][1][0]["d"].append(0)
            found["e"] = 0
            self.assertEqual(take(), value())
        self.assertEqual(Verdict("wild", [[[[[1]]]]]).paper, [[[[[1]]]]])
        deep = Verdict("wild", [[[[[1]]]]])
        deep.paper[0][0][0][0].append(2)
        self.assertEqual(deep.paper, [[[[[1]]]]])

    def test_p49_a_dict_keeps_its_keys(self):
        table = {"b": 1, 2: 2, None: 3, ("a", (1,)): [4], True: 5}
        self.assertEqual(list(Verdict("tame", table).paper.items()), list(table.items()))

    def test_p49_properties_cannot_be_assigned(self):
        verdict = Verdict("tame", None)
        with self.assertRaises(AttributeError):
            verdict.kind = "wild"
        with self.assertRaises(AttributeError):
            verdict.paper = FIRST

    def test_p10_it_is_not_equal_to_values_of_other_kinds(self):
        for value in [*ODD_VALUES, "tame", ("tame", None), ["tame", None], {"kind": "tame", "paper": None}, TAME]:
            self.assertFalse(Verdict("tame", None) == value)
            self.assertFalse(value == Verdict("tame", None))
            self.assertTrue(Verdict("tame", None) != value)


class JudgeTest(unittest.TestCase):

    def test_example(self):
        self.assertEqual([judge(WILD).kind, check_verdict(WILD, Verdict("wild", SECOND))], ["wild", True])

    def test_p7_p49_against_all_triples(self):
        for rules in BOOKS:
            triples, found = triples_of(rules), judge(rules)
            self.assertIs(type(found), Verdict)
            self.assertEqual(found.kind, "wild" if triples else "tame")
            if triples:
                self.assertIn(found.paper, triples)
            else:
                self.assertIs(found.paper, None)
            self.assertIs(check_verdict(rules, found), True)

    def test_p10_p49_the_same_for_equal_rules(self):
        for rules in BOOKS:
            one, other = judge(rules), judge(Rules.read(str(rules)))
            self.assertEqual((one.kind, one.paper), (other.kind, other.paper))


class CheckVerdictTest(unittest.TestCase):

    def test_p49_each_triple_of_the_rules(self):
        for rules in [*WILD_BOOKS[:8], *TAME_BOOKS[:4]]:
            if len(rules.jobs) <= 4:
                triples, sets = triples_of(rules), sets_of(rules.jobs)
                for value in itertools.product(sets, rules.jobs, sets):
                    self.assertIs(check_verdict(rules, Verdict("wild", value)), value in triples, (str(rules), value))
        for rules in WILD_BOOKS:
            for value in triples_of(rules):
                self.assertIs(check_verdict(rules, Verdict("wild", value)), True)
                self.assertIs(check_verdict(rules, Verdict("tame", value)), False)

    def test_p49_the_kind_has_to_be_right(self):
        for kind, paper in itertools.product(["tame", "wild", "", "Tame", "wild "], [None, FIRST, SECOND]):
            verdict = Verdict(kind, paper)
            self.assertIs(check_verdict(TAME, verdict), (kind, paper) == ("tame", None))
            self.assertIs(check_verdict(WILD, verdict), kind == "wild" and paper is not None)

    def test_p2_p49_the_kind_may_be_any_value(self):
        for value in [*ODD_VALUES, (), ["tame"], ["wild"], ("wild",), {"wild": True}, [["tame"]]]:
            for paper in [None, FIRST]:
                self.assertIs(check_verdict(TAME, Verdict(value, paper)), False)
                self.assertIs(check_verdict(WILD, Verdict(value, paper)), False)

    def test_p2_p49_the_paper_may_be_any_value(self):
        for value in [*ODD_VALUES, (), list(FIRST), FIRST[:2], (*FIRST, None), (FIRST,), [FIRST], {"a": FIRST},
                      (list(FIRST[0]), *FIRST[1:]), (*FIRST[:2], list(FIRST[2])), (("x", "z", "y"), *FIRST[1:])]:
            self.assertIs(check_verdict(TAME, Verdict("tame", value)), value is None, value)
            self.assertIs(check_verdict(TAME, Verdict("wild", value)), False, value)
            self.assertIs(check_verdict(WILD, Verdict("wild", value)), False, value)
            self.assertIs(check_verdict(WILD, Verdict("tame", value)), False, value)


class ArgumentsTest(unittest.TestCase):

    def test_p10_by_name(self):
        plan, order = wild_plan(rules=WILD)
        self.assertIs(check_wild(order=order, plan=plan, rules=WILD), True)
        verdict = Verdict(paper=FIRST, kind="wild")
        self.assertEqual((verdict.kind, verdict.paper), ("wild", FIRST))
        self.assertIs(check_verdict(verdict=verdict, rules=WILD), True)
        self.assertEqual(judge(rules=WILD).kind, "wild")

    def test_p10_arguments_stay_as_they_are(self):
        plan, order = wild_plan(WILD)
        value = [["x"], {"a": [1]}]
        check_wild(WILD, plan, value)
        verdict = Verdict(value, value)
        check_verdict(WILD, verdict)
        self.assertEqual((value, verdict.kind, verdict.paper), ([["x"], {"a": [1]}],) * 3)
        self.assertEqual((plan, order), wild_plan(WILD))
        self.assertEqual(str(WILD), "x y z; y: x | z")

    def test_each_name_is_defined_here(self):
        for name in ["wild_plan", "check_wild", "Verdict", "judge", "check_verdict"]:
            self.assertEqual(getattr(verdicts, name).__module__, "tailpick.verdicts")
        for name in ["__init__", "kind", "paper"]:
            self.assertIn(name, vars(Verdict))


if __name__ == "__main__":
    unittest.main()
