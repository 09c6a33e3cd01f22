"""Points 2, 10, 11 and 61 to 67: desks, their changes, and what they take back."""

import random
import unittest

from tailpick import desks
from tailpick.costs import Cost
from tailpick.desks import Desk
from tailpick.errors import (
    BadCount, BadNumber, BadSet, NoOrder, NothingToUndo, TailError, UnknownName, UnlikeJobs)
from tailpick.orders import is_order
from tailpick.plans import Plan
from tailpick.rules import Rules
from tailpick.verdicts import Verdict, judge
from tests.brute import NAMES, loose_rules, orders_of, some_books, some_set, triples_of
from tests.helpers import ODD_VALUES, ErrorCase, example_plan

START = Rules.read("x y z; y: x; z > y")
CHANGES = [
    ("need", "y", [("x",), ("z",)]), ("limit", "x", ("y", "z")), ("drop need", 0), ("drop limit", 0),
]
# Each of these raises an error at a desk with START: the error, its argument, and the change.
WRONG = [
    (UnknownName, {"name": "w"}, ("need", "w", [("x",)])),
    (UnknownName, {"name": ""}, ("need", "", [])),
    (BadCount, {"count": 0}, ("need", "y", [])),
    (BadCount, {"count": 7}, ("need", "y", [("x",)] * 7)),
    (BadSet, {"value": ("y",)}, ("need", "y", [("x",), ("y",)])),
    (BadSet, {"value": None}, ("need", "y", [("x",), None])),
    (BadSet, {"value": ["x"]}, ("need", "y", [["x"]])),
    (NoOrder, {"value": ("z",)}, ("need", "x", [("y",)])),
    (UnknownName, {"name": "w"}, ("limit", "w", ("x",))),
    (BadSet, {"value": ()}, ("limit", "x", ())),
    (BadSet, {"value": ("x", "y")}, ("limit", "x", ("x", "y"))),
    (BadSet, {"value": ("z", "y")}, ("limit", "x", ("z", "y"))),
    (BadSet, {"value": None}, ("limit", "x", None)),
    (NoOrder, {"value": ("z",)}, ("limit", "y", ("x",))),
    (BadNumber, {"value": 2}, ("drop need", 2)),
    (BadNumber, {"value": -1}, ("drop need", -1)),
    (BadNumber, {"value": False}, ("drop need", False)),
    (BadNumber, {"value": 2}, ("drop limit", 2)),
    (BadNumber, {"value": None}, ("drop limit", None)),
    (BadNumber, {"value": [0]}, ("drop limit", [0])),
]


def told(rules, change):
    """The rules after a change, by the methods of point 17."""
    word, *given = change
    calls = {"need": rules.with_need, "limit": rules.with_limit, "drop need": rules.without_need,
             "drop limit": rules.without_limit}
    return calls[word](*given)


def make(desk, change):
    """Make a change at a desk by its own call."""
    word, *given = change
    calls = {"need": desk.put_need, "limit": desk.put_limit, "drop need": desk.drop_need,
             "drop limit": desk.drop_limit}
    return calls[word](*given)


def some_change(source, jobs):
    """A change; it may be wrong for the rules of the desk."""
    job = source.choice([*jobs, *jobs, *jobs, "zz"])
    others = [name for name in jobs if name != job]
    kind = source.choice(["need", "need", "limit", "drop need", "drop limit"])
    if kind == "need":
        return kind, job, [some_set(source, others, 0) for _ in range(source.randint(1, 2))]
    if kind == "limit":
        return kind, job, some_set(source, others, source.choice([0, 1, 1, 1]))
    return kind, source.choice([0, 0, 1, 2, 3, -1, None])


def shown(verdict):
    return verdict.kind, verdict.paper


class DeskCase(ErrorCase):

    def assert_at(self, desk, rules, count):
        """The desk is at these rules, with so many changes that can be taken back."""
        self.assertEqual(desk.rules, rules)
        self.assertEqual(len(desk), count)
        self.assertEqual(shown(desk.verdict()), shown(judge(rules)))


class RulesTest(DeskCase):

    def test_example(self):
        desk = Desk(Rules.read("x y z"))
        desk.put_need("y", [("x",), ("z",)])
        kind = desk.tried([("drop need", 0), ("limit", "x", ("z",))]).kind
        self.assertEqual(
            [kind, desk.verdict().kind, str(desk.rules), len(desk), ("x", "y", "z") in desk, ("y", "x", "z") in desk],
            ["tame", "wild", "x y z; y: x | z", 1, True, False])

    def test_p61_a_new_desk(self):
        for rules in [START, Rules.read("a"), Rules.read("x y z; y: x | z")]:
            desk = Desk(rules)
            self.assert_at(desk, rules, 0)
            self.assertIs(type(desk.rules), Rules)
            self.assertIs(type(desk.verdict()), Verdict)
        with self.assertRaises(AttributeError):
            Desk(START).rules = START

    def test_p61_the_verdict_of_the_rules_as_they_are_now(self):
        desk = Desk(Rules.read("x y z"))
        self.assertEqual(shown(desk.verdict()), ("tame", None))
        desk.put_need("y", [("x",), ("z",)])
        self.assertEqual(shown(desk.verdict()), ("wild", (("x", "y", "z"), "x", ("x", "y"))))
        desk.put_limit("x", ("y",))
        self.assertEqual(shown(desk.verdict()), ("tame", None))
        desk.undo()
        self.assertEqual(desk.verdict().kind, "wild")

    def test_p62_each_change(self):
        desk = Desk(START)
        texts = []
        for change in CHANGES:
            make(desk, change)
            texts.append(str(desk.rules))
        self.assertEqual(texts, [
            "x y z; y: x; y: x | z; z > y", "x y z; y: x; y: x | z; z > y; x > y z",
            "x y z; y: x | z; z > y; x > y z", "x y z; y: x | z; x > y z"])
        self.assertEqual(len(desk), 4)

    def test_p62_errors_change_nothing(self):
        for kind, arguments, change in WRONG:
            desk = Desk(START)
            self.assert_error(kind, arguments, make, desk, change)
            self.assert_at(desk, START, 0)
            self.assert_error(NothingToUndo, {}, desk.undo)
            desk.put_limit("x", ("y", "z"))
            with self.assertRaises(kind):
                make(desk, change)
            self.assert_at(desk, START.with_limit("x", ("y", "z")), 1)
            desk.undo()
            self.assert_at(desk, START, 0)

    def test_p2_p62_any_values(self):
        desk = Desk(START)
        for value in ODD_VALUES:
            if type(value) is not int or value != 0:
                for call in [desk.drop_need, desk.drop_limit]:
                    self.assertIs(self.assert_error(BadNumber, {"value": value}, call, value).value, value)
            self.assertIs(self.assert_error(BadSet, {"value": value}, desk.put_need, "x", [value]).value, value)
            self.assertIs(self.assert_error(BadSet, {"value": value}, desk.put_limit, "x", value).value, value)
        self.assert_at(desk, START, 0)

    def test_p62_too_many_needs_and_limits(self):
        desk = Desk(Rules.read("a b"))
        for _ in range(12):
            desk.put_need("b", [("a",)])
            desk.put_limit("a", ("b",))
        self.assert_error(BadCount, {"count": 13}, desk.put_need, "b", [("a",)])
        self.assert_error(BadCount, {"count": 13}, desk.put_limit, "a", ("b",))
        self.assertEqual((len(desk), len(desk.rules.needs), len(desk.rules.limits)), (24, 12, 12))

    def test_p10_p62_the_calls_return_none(self):
        desk = Desk(START)
        for change in CHANGES:
            self.assertIs(make(desk, change), None)
        for _ in CHANGES:
            self.assertIs(desk.undo(), None)


class UndoTest(DeskCase):

    def test_p63_back_to_the_start_step_by_step(self):
        desk, past = Desk(START), [START]
        for change in CHANGES:
            make(desk, change)
            past.append(desk.rules)
        while len(past) > 1:
            self.assert_at(desk, past.pop(), len(past))
            desk.undo()
        self.assert_at(desk, START, 0)
        self.assert_error(NothingToUndo, {}, desk.undo)
        self.assert_error(NothingToUndo, {}, desk.undo)
        self.assert_at(desk, START, 0)

    def test_p63_undo_is_no_change_itself(self):
        desk = Desk(START)
        desk.drop_need(0)
        desk.drop_limit(0)
        desk.undo()
        self.assert_at(desk, START.without_need(0), 1)
        desk.undo()
        self.assert_at(desk, START, 0)

    def test_p63_a_change_after_undo(self):
        desk = Desk(START)
        desk.drop_need(0)
        desk.undo()
        desk.drop_limit(0)
        self.assert_at(desk, Rules.read("x y z; y: x"), 1)
        desk.undo()
        self.assert_at(desk, START, 0)
        self.assert_error(NothingToUndo, {}, desk.undo)

    def test_p63_a_change_that_was_dropped_comes_back_in_its_place(self):
        rules = Rules.read("a b c; b: a; c: a; c: b")
        desk = Desk(rules)
        desk.drop_need(0)
        desk.drop_need(1)
        self.assertEqual(str(desk.rules), "a b c; c: a")
        desk.undo()
        desk.undo()
        self.assertEqual(desk.rules, rules)

    def test_p63_each_call_counts_even_if_it_says_nothing_new(self):
        desk = Desk(START)
        for count in range(1, 5):
            desk.put_need("y", [("x",), ()])
            self.assertEqual(len(desk), count)


class TriedTest(DeskCase):

    def test_p64_the_verdict_after_all_changes(self):
        desk = Desk(START)
        for count in range(len(CHANGES) + 1):
            found = desk.tried(CHANGES[:count])
            self.assertIs(type(found), Verdict)
            rules = START
            for change in CHANGES[:count]:
                rules = told(rules, change)
            self.assertEqual(shown(found), shown(judge(rules)))
            self.assertEqual(shown(desk.tried(tuple(CHANGES[:count]))), shown(found))
            self.assert_at(desk, START, 0)

    def test_p64_wild_and_tame(self):
        desk = Desk(Rules.read("x y z"))
        wild = ("need", "y", [("x",), ("z",)])
        self.assertEqual(shown(desk.tried([wild])), ("wild", (("x", "y", "z"), "x", ("x", "y"))))
        self.assertEqual(shown(desk.tried([wild, ("drop need", 0)])), ("tame", None))
        self.assertEqual(shown(desk.tried([wild, ("limit", "x", ("y",))])), ("tame", None))
        self.assertEqual(desk.tried([wild, ("limit", "x", ("y",)), ("drop limit", 0)]).kind, "wild")
        self.assertEqual(desk.tried([]).kind, "tame")

    def test_p64_the_desk_is_as_it_was(self):
        desk = Desk(START)
        desk.drop_limit(0)
        desk.put_limit("x", ("y", "z"))
        now = desk.rules
        desk.tried(CHANGES)
        self.assert_at(desk, now, 2)
        desk.undo()
        self.assert_at(desk, START.without_limit(0), 1)
        desk.tried([("drop need", 0)])
        desk.undo()
        self.assert_at(desk, START, 0)

    def test_p64_the_first_error_is_raised_and_nothing_changes(self):
        for kind, arguments, change in WRONG:
            desk = Desk(START)
            desk.put_limit("x", ("y", "z"))
            desk.put_need("y", [()])
            now = desk.rules
            changes = [("drop limit", 1), ("drop need", 1), change]
            self.assert_error(kind, arguments, desk.tried, changes)
            self.assert_error(kind, arguments, desk.tried, [*changes, ("drop need", 9)])
            self.assert_at(desk, now, 2)
            desk.undo()
            self.assert_at(desk, START.with_limit("x", ("y", "z")), 1)

    def test_p64_a_change_is_made_after_those_before_it(self):
        # What comes first may make the next one right, or wrong.
        desk = Desk(START)
        self.assert_error(NoOrder, {"value": ("z",)}, desk.tried, [("need", "x", [("y",)]), ("drop need", 0)])
        self.assertEqual(desk.tried([("drop need", 0), ("need", "x", [("y",)])]).kind, "tame")
        self.assert_error(BadNumber, {"value": 0}, desk.tried, [("drop need", 0), ("drop need", 0)])
        self.assert_error(BadNumber, {"value": 0}, desk.tried, [("drop limit", 0), ("drop limit", 0)])
        self.assert_error(BadCount, {"count": 13}, desk.tried, [("need", "y", [()])] * 12)
        self.assert_at(desk, START, 0)

    def test_p10_p64_changes_stay_as_they_are(self):
        changes = [("need", "y", [("x",), ("z",)]), ("drop need", 0)]
        desk = Desk(START)
        desk.tried(changes)
        self.assertEqual(changes, [("need", "y", [("x",), ("z",)]), ("drop need", 0)])


class InTest(DeskCase):

    def test_p65_all_orders(self):
        for rules in some_books(65, 60):
            desk, good = Desk(rules), orders_of(rules)
            for order in orders_of(Rules(rules.jobs, [], [])):
                self.assertIs(order in desk, order in good, (str(rules), order))

    def test_p65_as_the_rules_are_now(self):
        desk = Desk(Rules.read("a b"))
        self.assertIs(("b", "a") in desk, True)
        desk.put_need("b", [("a",)])
        self.assertEqual([("b", "a") in desk, ("a", "b") in desk, ("b", "a") not in desk], [False, True, True])
        desk.undo()
        self.assertIs(("b", "a") in desk, True)

    def test_p2_p65_any_other_value(self):
        desk = Desk(Rules.read("a b"))
        for value in [*ODD_VALUES, (), ["a", "b"], ("a",), ("a", "b", "c"), ("a", "a"), ("a", "b", "a"), "ab",
                      {"a": 1, "b": 2}, (("a", "b"),), ("a", ["b"]), ("a", None), ("a", "c")]:
            self.assertIs(value in desk, value == ("b", "a"), value)


class PlanTest(DeskCase):

    def test_p66_the_plan_with_the_rules_as_they_are_now(self):
        parts = example_plan().durations(), example_plan().costs()
        desk = Desk(Rules.read("a b c"))
        self.assertEqual(desk.plan(*parts), Plan(Rules.read("a b c"), *parts))
        desk.put_need("c", [("a",)])
        self.assertEqual(desk.plan(*parts), example_plan())
        self.assertEqual(desk.plan(costs=parts[1], durations=parts[0]), example_plan())
        self.assert_at(desk, example_plan().rules, 1)

    def test_p66_errors(self):
        durations, costs = example_plan().durations(), example_plan().costs()
        desk = Desk(Rules.read("a b c"))
        self.assert_error(UnlikeJobs, {"names": ("a",)}, desk.plan, {"a": 1}, {"b": Cost([])})
        self.assert_error(UnlikeJobs, {"names": ("b",)}, desk.plan, {**durations, "a": -1}, {"b": Cost([])})
        self.assert_error(BadNumber, {"value": -1}, desk.plan, {**durations, "a": -1}, costs)
        self.assert_at(desk, Rules.read("a b c"), 0)


class ManyCallsTest(DeskCase):

    def assert_like_new(self, desk, rules):
        """The desk gives or raises what a new desk of equal rules does."""
        other = Desk(Rules(rules.jobs, rules.needs, rules.limits))
        self.assertEqual(desk.rules, other.rules)
        self.assertEqual(shown(desk.verdict()), shown(other.verdict()))
        self.assertEqual(desk.verdict().kind, "wild" if triples_of(rules) else "tame")
        durations, costs = {job: 1 for job in rules.jobs}, {job: Cost([]) for job in rules.jobs}
        self.assertEqual(desk.plan(durations, costs), other.plan(durations, costs))
        for order in [rules.jobs, rules.jobs[::-1], rules.jobs[1:] + rules.jobs[:1], list(rules.jobs), None]:
            self.assertIs(order in desk, order in other)
            self.assertIs(order in desk, is_order(rules, order))
        for table in [{}, {**durations, rules.jobs[0]: -1}]:
            kinds = []
            for each in [desk, other]:
                with self.assertRaises(TailError) as caught:
                    each.plan(table, costs)
                kinds.append((type(caught.exception), vars(caught.exception)))
            self.assertEqual(*kinds)

    def try_at(self, desk, past, changes):
        """Try the changes at the desk, and say whether an error was due."""
        rules = past[-1]
        for change in changes:
            try:
                rules = told(rules, change)
            except TailError as error:
                self.assert_error(type(error), vars(error), desk.tried, changes)
                return True
        self.assertEqual(shown(desk.tried(changes)), shown(judge(rules)))
        return False

    def change_at(self, desk, past, change):
        """Make the change at the desk, and say whether an error was due."""
        try:
            past.append(told(past[-1], change))
        except TailError as error:
            self.assert_error(type(error), vars(error), make, desk, change)
            return True
        self.assertIs(make(desk, change), None)
        return False

    def test_p67_after_any_sequence_of_calls(self):
        source = random.Random(67)
        counts = {"changes": 0, "errors": 0, "undone": 0}
        for rules in [*some_books(67, 15, (2, 3, 4)), *some_books(68, 10, (3, 4), [loose_rules])]:
            desk, past = Desk(rules), [rules]
            for _ in range(60):
                call = source.random()
                if call < 0.25:
                    if len(past) == 1:
                        self.assert_error(NothingToUndo, {}, desk.undo)
                    else:
                        self.assertIs(desk.undo(), None)
                        past.pop()
                        counts["undone"] += 1
                elif call < 0.45:
                    changes = [some_change(source, rules.jobs) for _ in range(source.randint(0, 4))]
                    counts["errors"] += self.try_at(desk, past, changes)
                else:
                    wrong = self.change_at(desk, past, some_change(source, rules.jobs))
                    counts["errors" if wrong else "changes"] += 1
                self.assertEqual((desk.rules, len(desk)), (past[-1], len(past) - 1))
                self.assert_like_new(desk, past[-1])
            while len(past) > 1:
                self.assert_at(desk, past.pop(), len(past))
                desk.undo()
            self.assert_at(desk, rules, 0)
        self.assertGreater(min(counts.values()), 100)

    def test_p67_a_thousand_changes(self):
        desk = Desk(Rules(NAMES, [], []))
        for _ in range(500):
            desk.put_need("b", [("a",)])
            desk.drop_need(0)
        self.assertEqual((len(desk), desk.rules), (1000, Rules(NAMES, [], [])))
        for _ in range(999):
            desk.undo()
        self.assertEqual((len(desk), str(desk.rules)), (1, "a b c d e f; b: a"))

    def test_p67_desks_do_not_share_what_they_keep(self):
        one, other = Desk(START), Desk(START)
        one.drop_need(0)
        self.assert_at(other, START, 0)
        self.assert_error(NothingToUndo, {}, other.undo)


class ArgumentsTest(DeskCase):

    def test_p10_by_name(self):
        desk = Desk(rules=START)
        desk.put_need(alternatives=[("x",)], job="y")
        desk.put_limit(wanted=("y", "z"), job="x")
        desk.drop_need(number=1)
        desk.drop_limit(number=1)
        self.assertEqual(desk.tried(changes=[]).kind, "tame")
        self.assert_at(desk, START, 4)

    def test_p10_alternatives_are_copied(self):
        desk, alternatives = Desk(START), [("x",), ("z",)]
        desk.put_need("y", alternatives)
        alternatives.clear()
        self.assertEqual(str(desk.rules), "x y z; y: x; y: x | z; z > y")

    def test_p10_rules_that_were_given_stay_as_they_are(self):
        rules = Rules.read("x y z")
        Desk(rules).put_need("y", [("x",)])
        self.assertEqual(str(rules), "x y z")

    def test_p10_not_equal_to_values_of_other_kinds(self):
        for value in [*ODD_VALUES, (), START, [START], Rules.read("a")]:
            self.assertFalse(Desk(START) == value)
            self.assertTrue(Desk(START) != value)

    def test_each_name_is_defined_here(self):
        self.assertEqual(Desk.__module__, "tailpick.desks")
        self.assertIs(desks.Desk, Desk)
        for name in ["__init__", "rules", "verdict", "tried", "put_need", "put_limit", "drop_need", "drop_limit",
                     "undo", "plan", "__len__", "__contains__"]:
            self.assertIn(name, vars(Desk))


if __name__ == "__main__":
    unittest.main()
