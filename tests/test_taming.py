"""Points 7, 10, 11 and 26 to 29: tame books, triples, and jobs that are moved to the end."""

import itertools
import unittest

from tailpick import taming
from tailpick.errors import NoOrder, UnknownName
from tailpick.orders import all_sets, allowed_orders, allowed_sets, is_allowed, is_order, last_jobs, on_the_way
from tailpick.rules import Rules
from tailpick.taming import check_triple, is_tame, put_last, wild_triple
from tests.brute import NAMES, loose_rules, some_books, triples_of
from tests.helpers import ODD_VALUES, ErrorCase

WILD = Rules.read("x y z; y: x | z")
FIRST = (("x", "y", "z"), "x", ("x", "y"))
SECOND = (("x", "y", "z"), "z", ("y", "z"))
BOOKS = [*some_books(26, 100), *some_books(27, 200, (3, 4, 4, 5), [loose_rules])]


def tame_by_words(rules):
    """Point 7, word by word."""
    for wanted in allowed_sets(rules):
        for job in last_jobs(rules, wanted):
            for inner in allowed_sets(rules):
                if job in inner and on_the_way(rules, inner, wanted):
                    if not is_allowed(rules, tuple(name for name in inner if name != job)):
                        return False
    return True


class TripleTest(unittest.TestCase):

    def test_example(self):
        self.assertIs(is_tame(WILD), False)
        self.assertEqual(wild_triple(WILD), FIRST)
        self.assertIs(is_tame(Rules.read("x y z; y: x")), True)

    def test_p26_tame_rules_have_no_triple(self):
        for text in ["a", "a b c d e f", "a b c; c: a b", "a b; a > b", "a b c; b: a | c; c: a b; c: a",
                     "x y z; y: x | z | -"]:
            self.assertIs(wild_triple(Rules.read(text)), None)
            self.assertIs(is_tame(Rules.read(text)), True)

    def test_p26_wild_rules(self):
        for text, triple in [
            ("a b c d; d: a | b", (("a", "b", "d"), "a", ("a", "d"))),
            ("a b c d; d: b | c", (("b", "c", "d"), "b", ("b", "d"))),
            ("a b c d; d: a b | b c", (("a", "b", "c", "d"), "a", ("a", "b", "d"))),
            ("a b c d; b: a | d; c: b", (("a", "b", "d"), "a", ("a", "b"))),
            ("x y z; y: x | z; y > x z", FIRST),
        ]:
            with self.subTest(text=text):
                self.assertEqual(wild_triple(Rules.read(text)), triple)
                self.assertIs(is_tame(Rules.read(text)), False)

    def test_p26_a_limit_can_keep_rules_tame(self):
        self.assertIs(is_tame(Rules.read("x y z; y: x | z; x > y")), True)

    def test_p7_p26_against_all_orders(self):
        wild = 0
        for rules in BOOKS:
            triples = triples_of(rules)
            wild += bool(triples)
            self.assertEqual(wild_triple(rules), triples[0] if triples else None, str(rules))
            self.assertIs(is_tame(rules), not triples, str(rules))
            self.assertIs(is_tame(rules), tame_by_words(rules), str(rules))
        self.assertGreater(wild, 40)
        self.assertLess(wild, 210)

    def test_p26_the_first_one_by_set_then_job_then_inner_set(self):
        # Rules in which each part decides between some triples.
        by_part = [0, 0, 0]
        for rules in BOOKS:
            triples = triples_of(rules)
            for at in range(3):
                by_part[at] += len({triple[:at + 1] for triple in triples}) > len({t[:at] for t in triples})
            if triples:
                first = min(triples, key=lambda t: (len(t[0]), t[0], t[1], len(t[2]), t[2]))
                self.assertEqual(wild_triple(rules), first)
        self.assertGreater(min(by_part), 5)

    def test_p10_by_name(self):
        self.assertEqual(wild_triple(rules=WILD), FIRST)
        self.assertIs(is_tame(rules=WILD), False)
        self.assertIs(check_triple(value=SECOND, rules=WILD), True)
        self.assertEqual(put_last(name="x", order=("x", "y")), ("y", "x"))


class CheckTripleTest(unittest.TestCase):

    def test_example(self):
        self.assertIs(check_triple(WILD, SECOND), True)

    def test_p27_just_the_triples(self):
        for rules in [WILD, *BOOKS[:60]]:
            if len(rules.jobs) < 5:
                triples = triples_of(rules)
                sets = all_sets(rules.jobs)
                for value in itertools.product(sets, rules.jobs, sets):
                    self.assertIs(check_triple(rules, value), value in triples, (str(rules), value))

    def test_p2_p27_any_value_may_be_asked_about(self):
        for value in ODD_VALUES:
            self.assertIs(check_triple(WILD, value), False)
            for at in range(3):
                changed = list(FIRST)
                changed[at] = value
                self.assertIs(check_triple(WILD, tuple(changed)), False, value)
        for value in [
            (), FIRST[:1], list(FIRST), FIRST[:2], (*FIRST, None), (*FIRST, FIRST[2]), (FIRST,), [FIRST], {FIRST: True},
            (list(FIRST[0]), *FIRST[1:]), (*FIRST[:2], list(FIRST[2])), (FIRST[0], ("x",), FIRST[2]),
            (("z", "y", "x"), *FIRST[1:]), (*FIRST[:2], ("y", "x")), (*FIRST[:2], ("x", "x", "y")), "xyz",
        ]:
            self.assertIs(check_triple(WILD, value), False, value)

    def test_p27_each_part_of_a_triple_counts(self):
        # A set that is not allowed, a job that is not last, a set without the job, a set that is not on
        # the way, and one that is allowed without the job.
        rules = Rules.read("a b c d; d: a | b; c: d")
        self.assertEqual(triples_of(rules)[0], (("a", "b", "d"), "a", ("a", "d")))
        for value in [
            (("a", "c"), "a", ("a",)), (("a", "d"), "a", ("a", "d")), (("a", "b", "d"), "a", ("b", "d")),
            (("a", "b"), "a", ("a", "d")), (("a", "b", "d"), "a", ("a", "b")), (("a", "b", "c", "d"), "a", ("a", "d")),
        ]:
            self.assertIs(check_triple(rules, value), value in triples_of(rules), value)


class PutLastTest(ErrorCase):

    def test_example(self):
        self.assertEqual(put_last(("x", "y", "z"), "x"), ("y", "z", "x"))

    def test_p28_each_place(self):
        order = ("c", "a", "b", "d")
        self.assertEqual(put_last(order, "c"), ("a", "b", "d", "c"))
        self.assertEqual(put_last(order, "a"), ("c", "b", "d", "a"))
        self.assertEqual(put_last(order, "d"), order)
        self.assertEqual(put_last(("a",), "a"), ("a",))
        self.assertEqual(order, ("c", "a", "b", "d"))

    def test_p28_names_that_are_not_in_it(self):
        for order, name in [(("a", "b"), "c"), ((), "a"), (("ab",), "a"), (("a", "b"), ""), (("a", "b"), "a b")]:
            self.assert_error(UnknownName, {"name": name}, put_last, order, name)

    def test_p28_in_tame_rules_orders_stay_allowed(self):
        moved = 0
        for rules in BOOKS:
            if is_tame(rules):
                for name in last_jobs(rules, rules.jobs):
                    for order in allowed_orders(rules):
                        moved += 1
                        self.assertIs(is_order(rules, put_last(order, name)), True, (str(rules), order, name))
        self.assertGreater(moved, 500)

    def test_p28_in_wild_rules_they_need_not(self):
        self.assertIs(is_order(WILD, ("x", "y", "z")), True)
        self.assertIs(is_order(WILD, put_last(("x", "y", "z"), "x")), False)


class TameRulesTest(unittest.TestCase):

    def test_p29_one_alternative_each_and_no_limits(self):
        pairs = list(itertools.permutations(NAMES[:4], 2))
        checked = 0
        for chosen in itertools.combinations(pairs, 3):
            needs = [(job, [(other,)]) for job, other in chosen]
            needs.append((chosen[0][0], [tuple(sorted(set(NAMES[:4]) - set(chosen[0])))]))
            try:
                rules = Rules(NAMES[:4], needs, [])
            except NoOrder:
                continue
            checked += 1
            self.assertIs(is_tame(rules), True, str(rules))
        self.assertGreater(checked, 20)

    def test_p29_one_need_or_limit_more_need_not_be_tame(self):
        tame = Rules.read("x y z")
        self.assertIs(is_tame(tame), True)
        self.assertIs(is_tame(tame.with_need("y", [("x",), ("z",)])), False)
        # All needs of tame rules, and one limit more, but not the limit that keeps them tame.
        tame = Rules.read("x y z; y: x | z; x > y")
        self.assertIs(is_tame(tame), True)
        self.assertIs(is_tame(Rules(tame.jobs, tame.needs, [("y", ("x", "z"))])), False)


class InterfaceTest(unittest.TestCase):

    def test_each_function_is_defined_here(self):
        for name in ["wild_triple", "is_tame", "check_triple", "put_last"]:
            self.assertEqual(getattr(taming, name).__module__, "tailpick.taming")


if __name__ == "__main__":
    unittest.main()
