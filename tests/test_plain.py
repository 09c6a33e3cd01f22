"""Points 9 to 11 and 50 to 53: plain needs, and what is needless in rules."""

import itertools
import unittest

from tailpick import plain
from tailpick.errors import BadCount, BadName, BadSet, NoOrder, UnknownName
from tailpick.plain import must_precede, needless, plain_needs, plain_rules, slim
from tailpick.rules import Rules
from tests.brute import NAMES, allowed_of, loose_rules, orders_of, some_books, triples_of
from tests.helpers import ODD_VALUES, ErrorCase

BOOKS = [*some_books(50, 250), *some_books(51, 150, (3, 4, 4, 5), [loose_rules])]
EXAMPLE = Rules.read("a b c; b: a | c; c: a b; c: a")
WILD = Rules.read("x y z; y: x | z")


def before_of(rules):
    """For each job the set of the jobs that stand before it in every allowed order."""
    orders = orders_of(rules)
    return {
        job: tuple(other for other in rules.jobs if all(order.index(other) < order.index(job) for order in orders))
        for job in rules.jobs
    }


def keeping(needs):
    """All orders in which all jobs of the set of each job are done before the job."""
    return [
        order for order in itertools.permutations(sorted(needs))
        if all(order.index(other) < order.index(job) for job in needs for other in needs[job])
    ]


def needless_of(rules):
    """The numbers of the needs and of the limits without which the same orders are allowed."""
    def same(needs, limits):
        return orders_of(Rules(rules.jobs, needs, limits)) == orders_of(rules)

    needs, limits = list(rules.needs), list(rules.limits)
    return (
        [at for at in range(len(needs)) if same(needs[:at] + needs[at + 1:], limits)],
        [at for at in range(len(limits)) if same(needs, limits[:at] + limits[at + 1:])],
    )


def slim_of(rules):
    """Point 53, word by word."""
    needs, limits = list(rules.needs), list(rules.limits)
    for at in reversed(range(len(needs))):
        if at in needless_of(Rules(rules.jobs, needs, limits))[0]:
            del needs[at]
    for at in reversed(range(len(limits))):
        if at in needless_of(Rules(rules.jobs, needs, limits))[1]:
            del limits[at]
    return Rules(rules.jobs, needs, limits)


class PrecedeTest(unittest.TestCase):

    def test_example(self):
        self.assertEqual(
            [must_precede(EXAMPLE), plain_needs(EXAMPLE) == must_precede(EXAMPLE), needless(EXAMPLE),
             str(slim(EXAMPLE))],
            [{"a": (), "b": ("a",), "c": ("a", "b")}, True, ([2], []), "a b c; b: a | c; c: a b"])
        self.assertEqual([plain_needs(WILD), str(plain_rules({"b": ("a",), "a": ()}))], [None, "a b; b: a"])

    def test_p50_against_all_orders(self):
        for rules in BOOKS:
            self.assertEqual(must_precede(rules), before_of(rules), str(rules))

    def test_p50_what_only_follows_from_several_rules(self):
        # c needs a or b, and b needs a: so a comes before c, too.
        self.assertEqual(must_precede(Rules.read("a b c; b: a; c: a | b")), {"a": (), "b": ("a",), "c": ("a",)})
        # a limit with one job is a need of that job.
        self.assertEqual(must_precede(Rules.read("a b; b > a")), {"a": ("b",), "b": ()})
        # No need says that a is first, but nothing else leads on.
        self.assertEqual(must_precede(Rules.read("a b c; b: a; b > a c")), {"a": (), "b": ("a",), "c": ("a", "b")})
        self.assertEqual(must_precede(WILD), {"x": (), "y": (), "z": ()})

    def test_p50_plain_needs_against_all_orders(self):
        counts = {True: 0, False: 0}
        for rules in BOOKS:
            before = before_of(rules)
            right = keeping(before) == orders_of(rules)
            self.assertEqual(plain_needs(rules), before if right else None, str(rules))
            counts[right] += 1
        self.assertGreater(min(counts.values()), 40)

    def test_p50_tame_rules_that_are_not_plain(self):
        # a and b can each be done first, and so can not both.
        rules = Rules.read("a b c; c > a b")
        self.assertEqual(triples_of(rules), [])
        self.assertIs(plain_needs(rules), None)
        self.assertEqual(must_precede(rules), {"a": (), "b": (), "c": ()})

    def test_p50_one_job(self):
        self.assertEqual((must_precede(Rules.read("a")), plain_needs(Rules.read("a"))), ({"a": ()}, {"a": ()}))

    def test_p10_p50_kinds_and_new_dicts(self):
        for call in [must_precede, plain_needs]:
            found = call(EXAMPLE)
            self.assertIs(type(found), dict)
            self.assertTrue(all(type(wanted) is tuple for wanted in found.values()))
            self.assertEqual(sorted(found), ["a", "b", "c"])
            found.clear()
            self.assertEqual(call(EXAMPLE), {"a": (), "b": ("a",), "c": ("a", "b")})


class PlainTest(unittest.TestCase):

    def test_p9_p51_just_the_tame_books_in_which_two_allowed_sets_make_one(self):
        found = {(tame, closed): 0 for tame in [True, False] for closed in [True, False]}
        for rules in BOOKS:
            allowed = allowed_of(rules)
            closed = all(tuple(sorted({*one, *other})) in allowed for one, other in itertools.combinations(allowed, 2))
            tame = not triples_of(rules)
            self.assertIs(plain_needs(rules) is not None, tame and closed, str(rules))
            found[tame, closed] += 1
        self.assertGreater(min(found.values()), 5)

    def test_p51_rules_without_limits_are_plain_exactly_if_they_are_tame(self):
        counts = {True: 0, False: 0}
        for rules in BOOKS:
            bare = Rules(rules.jobs, rules.needs, [])
            tame = not triples_of(bare)
            self.assertIs(plain_needs(bare) is not None, tame, str(bare))
            counts[tame] += 1
        self.assertGreater(min(counts.values()), 40)

    def test_p52_the_rules_of_plain_needs_allow_the_same_orders(self):
        for rules in BOOKS:
            needs = plain_needs(rules)
            if needs is not None:
                self.assertEqual(orders_of(plain_rules(needs)), orders_of(rules), str(rules))


class PlainRulesTest(ErrorCase):

    def test_p52_jobs_and_needs_in_ascending_order(self):
        needs = {"c": ("a", "b"), "a": (), "d": ("c",), "b": ("a",)}
        found = plain_rules(needs)
        self.assertEqual(str(found), "a b c d; b: a; c: a b; d: c")
        self.assertEqual(found, plain_rules({job: needs[job] for job in sorted(needs)}))
        self.assertEqual(found.limits, ())
        self.assertEqual(str(plain_rules({"b": (), "a": ()})), "a b")
        self.assertEqual(str(plain_rules({"a9": ("a10",), "a10": ()})), "a10 a9; a9: a10")
        self.assertEqual(orders_of(found), keeping(needs))

    def test_p52_too_few_or_too_many_jobs(self):
        self.assert_error(BadCount, {"count": 0}, plain_rules, {})
        self.assertEqual(len(plain_rules({name: () for name in "abcdef"}).jobs), 6)
        self.assert_error(BadCount, {"count": 7}, plain_rules, {name: () for name in "abcdefg"})
        self.assert_error(BadCount, {"count": 7}, plain_rules, {name: None for name in [*"abcdef", ""]})

    def test_p52_keys_that_are_no_names(self):
        for name in ["", "A", "1a", "a b", "release", "a-b"]:
            self.assert_error(BadName, {"name": name}, plain_rules, {"a": (), name: ()})
        self.assert_error(BadName, {"name": "B"}, plain_rules, {"a": None, "b2": (), "C": (), "B": ()})

    def test_p11_p52_sets_that_are_none(self):
        for value in ODD_VALUES:
            if value not in [("a",), ("b", "a")]:
                error = self.assert_error(BadSet, {"value": value}, plain_rules, {"a": (), "b": value})
                self.assertIs(error.value, value)
        for value in [[], "", None, False, 0, {}, [()], ((),), ("b",), ("a", "b"), ["a"], ("c",), ("a", "a")]:
            self.assert_error(BadSet, {"value": value}, plain_rules, {"b": value, "a": ()})
        self.assert_error(BadSet, {"value": []}, plain_rules, {"c": None, "b": [], "a": ()})

    def test_p52_no_order(self):
        self.assert_error(NoOrder, {"value": ()}, plain_rules, {"a": ("b",), "b": ("a",)})
        self.assert_error(NoOrder, {"value": ("c",)}, plain_rules, {"a": ("b",), "b": ("a",), "c": ()})

    def test_p52_never_an_unknown_name(self):
        # Each key is a job, so a name that is none of them can only stand in a set.
        with self.assertRaises(BadSet) as caught:
            plain_rules({"a": ("zz",)})
        self.assertNotIsInstance(caught.exception, UnknownName)

    def test_p10_p52_the_dict_stays_as_it_is(self):
        needs = {"b": ("a",), "a": ()}
        found = plain_rules(needs)
        self.assertEqual(list(needs.items()), [("b", ("a",)), ("a", ())])
        needs["b"] = ()
        self.assertEqual(str(found), "a b; b: a")


class NeedlessTest(unittest.TestCase):

    def test_p53_against_all_orders(self):
        counts = [0, 0]
        for rules in BOOKS:
            right = needless_of(rules)
            self.assertEqual(needless(rules), right, str(rules))
            counts = [counts[0] + len(right[0]), counts[1] + len(right[1])]
        self.assertGreater(min(counts), 10)

    def test_p53_each_of_two_may_be_needless_beside_the_other(self):
        rules = Rules.read("a b c; b: a; c: b; b: a; c: a; b > c")
        self.assertEqual(needless(rules), ([0, 1, 2, 3], [0]))
        self.assertEqual(str(slim(rules)), "a b c; b: a; b > c")
        rules = Rules.read("a b; b: a; b: a; a > b; a > b")
        self.assertEqual(needless(rules), ([0, 1], [0, 1]))
        self.assertEqual(str(slim(rules)), "a b; a > b")
        rules = Rules.read("a b; b: a; b: a | -; b: a")
        self.assertEqual(needless(rules), ([0, 1, 2], []))
        self.assertEqual(str(slim(rules)), "a b; b: a")

    def test_p53_kinds(self):
        found = needless(EXAMPLE)
        self.assertEqual([type(found), type(found[0]), type(found[1])], [tuple, list, list])
        found[0].clear()
        found[1].append(7)
        self.assertEqual(needless(EXAMPLE), ([2], []))
        self.assertEqual(needless(Rules.read("a")), ([], []))


class SlimTest(unittest.TestCase):

    def test_p53_against_the_words(self):
        fewer = 0
        for rules in BOOKS:
            found = slim(rules)
            self.assertEqual(found, slim_of(rules), str(rules))
            self.assertEqual(orders_of(found), orders_of(rules))
            self.assertEqual(needless_of(found), ([], []))
            fewer += found != rules
        self.assertGreater(fewer, 50)

    def test_p53_from_the_last_need_to_the_first_and_then_the_limits(self):
        self.assertEqual(str(slim(Rules.read("a b c; c: b; b: a; c: a; c: b | -"))), "a b c; c: b; b: a")
        self.assertEqual(str(slim(Rules.read("a b c; c: a; b: a; c: b"))), "a b c; b: a; c: b")
        # Needs go first, although the limits alone say the same.
        self.assertEqual(str(slim(Rules.read("a b; b: a; a > b"))), "a b; a > b")
        self.assertEqual(str(slim(Rules.read("a b c; a > b c; a > b; a > c"))), "a b c; a > b; a > c")
        self.assertEqual(str(slim(Rules.read("a b c; a > b; a > b c; a > b"))), "a b c; a > b")

    def test_p53_nothing_to_leave_out(self):
        for text in ["a", "a b; b: a", "x y z; y: x | z", "a b c; c > a b", "a b; b: a"]:
            self.assertEqual(slim(Rules.read(text)), Rules.read(text))

    def test_p53_what_is_always_met(self):
        self.assertEqual(str(slim(Rules.read("a b c; c: -; b: a | -; a: b c | - | b"))), "a b c")

    def test_p53_the_most_rules(self):
        full = Rules(NAMES, [("f", [("a",), ("b",)])] * 12, [("a", ("e", "f"))] * 12)
        self.assertEqual(needless(full), (list(range(12)), list(range(12))))
        self.assertEqual(str(slim(full)), "a b c d e f; f: a | b; a > e f")


class ArgumentsTest(unittest.TestCase):

    def test_p10_by_name(self):
        self.assertEqual(must_precede(rules=EXAMPLE)["b"], ("a",))
        self.assertEqual(plain_needs(rules=WILD), None)
        self.assertEqual(str(plain_rules(needs={"a": ()})), "a")
        self.assertEqual(needless(rules=WILD), ([], []))
        self.assertEqual(slim(rules=WILD), WILD)

    def test_p10_rules_stay_as_they_are(self):
        for call in [must_precede, plain_needs, needless, slim]:
            self.assertEqual(call(EXAMPLE), call(EXAMPLE))
        self.assertEqual(str(EXAMPLE), "a b c; b: a | c; c: a b; c: a")

    def test_each_function_is_defined_here(self):
        for name in ["must_precede", "plain_needs", "plain_rules", "needless", "slim"]:
            self.assertEqual(getattr(plain, name).__module__, "tailpick.plain")


if __name__ == "__main__":
    unittest.main()
