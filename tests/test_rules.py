"""Points 2 to 5, 10, 11, 14 and 15: the constructor of rules, its errors and the properties."""

import unittest

from tailpick.errors import BadCount, BadName, BadSet, DuplicateName, NoOrder, TailError, UnknownName
from tailpick.rules import Rules
from tests.helpers import ODD_VALUES, ErrorCase

ABC = ["a", "b", "c"]
NEED = ("c", [("a",)])
LIMIT = ("a", ("b",))


class JobsTest(ErrorCase):

    def test_p3_p14_numbers_of_jobs(self):
        names = ["f", "e", "d", "c", "b", "a", "g", "h"]
        for count in range(1, 7):
            self.assertEqual(Rules(names[:count], [], []).jobs, tuple(sorted(names[:count])))
        for count in [0, 7, 8]:
            self.assert_error(BadCount, {"count": count}, Rules, names[:count], [], [])
        self.assert_error(BadCount, {"count": 1000}, Rules, ["A"] * 1000, [("x", [])], [])

    def test_p3_p14_bad_names(self):
        for name in ["", "A", "1a", "a b", "a_b", "abcdefg", "a\n", "-", "aB"]:
            self.assert_error(BadName, {"name": name}, Rules, ["a", name], [], [])
        self.assertEqual(Rules(["abcdef", "a00000", "z"], [], []).jobs, ("a00000", "abcdef", "z"))

    def test_p14_duplicate_names(self):
        self.assert_error(DuplicateName, {"name": "a"}, Rules, ["a", "b", "a"], [], [])
        self.assert_error(DuplicateName, {"name": "b"}, Rules, ["a", "b", "b", "a"], [], [])

    def test_p11_p14_names_are_looked_at_one_after_the_other(self):
        self.assert_error(BadName, {"name": "B"}, Rules, ["a", "B", "a", "C"], [], [])
        self.assert_error(DuplicateName, {"name": "a"}, Rules, ["a", "a", "B"], [], [])
        # A bad name counts as bad also where it stands for the second time.
        self.assert_error(BadName, {"name": "B"}, Rules, ["B", "B"], [], [])
        self.assert_error(BadCount, {"count": 7}, Rules, ["B", "B", "c", "d", "e", "f", "g"], [], [])

    def test_p3_p15_names_are_ordered_as_strings_are(self):
        self.assertEqual(Rules(["b", "a9", "a10", "a", "aa"], [], []).jobs, ("a", "a10", "a9", "aa", "b"))


class NeedsTest(ErrorCase):

    def test_p14_numbers_of_needs(self):
        self.assertEqual(len(Rules(ABC, [NEED] * 12, []).needs), 12)
        self.assert_error(BadCount, {"count": 13}, Rules, ABC, [NEED] * 13, [])
        self.assert_error(BadCount, {"count": 20}, Rules, ABC, [("x", [])] * 20, [])

    def test_p14_unknown_job(self):
        self.assert_error(UnknownName, {"name": "x"}, Rules, ABC, [NEED, ("x", [])], [])
        self.assert_error(UnknownName, {"name": "A"}, Rules, ABC, [("A", [("a",)])], [])

    def test_p14_numbers_of_alternatives(self):
        self.assertEqual(len(Rules(ABC, [("c", [("a",)] * 6)], []).needs[0][1]), 6)
        for count in [0, 7, 8]:
            self.assert_error(BadCount, {"count": count}, Rules, ABC, [("c", [("c",)] * count)], [])

    def test_p4_p14_sets_as_alternatives(self):
        for value in [(), ("a",), ("b",), ("a", "b")]:
            self.assertEqual(Rules(ABC, [("c", [value])], []).needs, (("c", (value,)),))

    def test_p4_p14_values_that_are_no_sets_of_other_jobs(self):
        for value in [*ODD_VALUES, ("c",), ("a", "c"), ("a", "b", "c"), ["b"], ("b", "b"), "ab"]:
            error = self.assert_error(BadSet, {"value": value}, Rules, ABC, [("c", [("a",), value, None])], [])
            self.assertIs(error.value, value)

    def test_p11_p14_needs_are_looked_at_one_after_the_other(self):
        bad = [("c", ["none"]), ("c", []), ("x", [])]
        self.assert_error(BadSet, {"value": "none"}, Rules, ABC, [NEED, bad[0], bad[1], bad[2]], [("x", ())] * 13)
        self.assert_error(BadCount, {"count": 0}, Rules, ABC, [bad[1], bad[2], bad[0]], [])
        self.assert_error(UnknownName, {"name": "x"}, Rules, ABC, [bad[2], bad[0], bad[1]], [])
        self.assert_error(UnknownName, {"name": "x"}, Rules, ABC, [("x", [None] * 7)], [])
        self.assert_error(BadCount, {"count": 7}, Rules, ABC, [("c", [None] * 7)], [])
        self.assert_error(DuplicateName, {"name": "a"}, Rules, ["a", "a"], [bad[2]] * 13, [])


class LimitsTest(ErrorCase):

    def test_p14_numbers_of_limits(self):
        self.assertEqual(len(Rules(ABC, [], [LIMIT] * 12).limits), 12)
        self.assert_error(BadCount, {"count": 13}, Rules, ABC, [], [LIMIT] * 13)
        self.assert_error(BadCount, {"count": 20}, Rules, ABC, [], [("x", ())] * 20)

    def test_p14_unknown_job(self):
        self.assert_error(UnknownName, {"name": "x"}, Rules, ABC, [], [LIMIT, ("x", None)])

    def test_p4_p14_sets(self):
        for value in [("a",), ("b",), ("a", "b")]:
            self.assertEqual(Rules(ABC, [], [("c", value)]).limits, (("c", value),))

    def test_p4_p14_values_that_are_no_sets_of_one_or_more_other_jobs(self):
        for value in [*ODD_VALUES, (), ("c",), ("a", "c"), ("a", "b", "c"), ["b"], "ab"]:
            error = self.assert_error(BadSet, {"value": value}, Rules, ABC, [], [("c", value), ("c", None)])
            self.assertIs(error.value, value)

    def test_p11_p14_limits_are_looked_at_one_after_the_other_behind_the_needs(self):
        self.assert_error(BadSet, {"value": ()}, Rules, ABC, [], [LIMIT, ("a", ()), ("x", ())])
        self.assert_error(UnknownName, {"name": "x"}, Rules, ABC, [], [("x", ()), ("a", ())])
        self.assert_error(UnknownName, {"name": "y"}, Rules, ABC, [("y", [])], [("x", ())] * 13)
        self.assert_error(BadCount, {"count": 0}, Rules, ABC, [("a", [])], [LIMIT] * 13)
        self.assert_error(BadSet, {"value": 3}, Rules, ABC, [("a", [3])], [("x", ())])

    def test_p14_no_order_comes_last(self):
        circle = [("a", [("b",)]), ("b", [("a",)])]
        self.assert_error(NoOrder, {"value": ("c",)}, Rules, ABC, circle, [])
        self.assert_error(BadSet, {"value": ()}, Rules, ABC, circle, [("a", ())])
        self.assert_error(UnknownName, {"name": "x"}, Rules, ABC, [*circle, ("x", [])], [])
        self.assert_error(BadCount, {"count": 13}, Rules, ABC, circle, [LIMIT] * 13)


class PropertiesTest(ErrorCase):

    def test_p15_jobs_ascend_and_the_rest_keeps_its_order(self):
        needs = [("c", [("b",), ("a",), (), ("b",)]), ("b", [("a",)]), ("c", [("a", "b")])]
        limits = [("b", ("c",)), ("a", ("b", "c")), ("b", ("c",))]
        rules = Rules(["c", "b", "a"], needs, limits)
        self.assertEqual(rules.jobs, ("a", "b", "c"))
        self.assertEqual(rules.needs, (
            ("c", (("b",), ("a",), (), ("b",))), ("b", (("a",),)), ("c", (("a", "b"),))))
        self.assertEqual(rules.limits, (("b", ("c",)), ("a", ("b", "c")), ("b", ("c",))))
        self.assertEqual((Rules(["a"], [], []).needs, Rules(["a"], [], []).limits), ((), ()))

    def test_p15_kinds(self):
        rules = Rules(ABC, [NEED], [LIMIT])
        for value in [rules.jobs, rules.needs, rules.needs[0], rules.needs[0][1], rules.limits, rules.limits[0]]:
            self.assertIs(type(value), tuple)

    def test_p14_rules_never_change(self):
        rules = Rules(ABC, [NEED], [LIMIT])
        for name in ["jobs", "needs", "limits"]:
            with self.assertRaises(AttributeError):
                setattr(rules, name, ())

    def test_p10_arguments_are_copied_and_not_changed(self):
        alternatives = [("b",), ("a",)]
        jobs, needs, limits = ["c", "a", "b"], [("c", alternatives)], [("a", ("b", "c"))]
        rules = Rules(jobs, needs, limits)
        self.assertEqual((jobs, needs, limits), (
            ["c", "a", "b"], [("c", [("b",), ("a",)])], [("a", ("b", "c"))]))
        alternatives.append(())
        alternatives[0] = ("a",)
        jobs.clear()
        needs.clear()
        limits.append(("a", ("b",)))
        self.assertEqual(str(rules), "a b c; c: b | a; a > b c")

    def test_p10_tuples_where_lists_are_asked_for(self):
        rules = Rules(("c", "a", "b"), (("c", (("a",), ())),), (LIMIT,))
        self.assertEqual(rules, Rules(["c", "a", "b"], [("c", [("a",), ()])], [LIMIT]))
        self.assert_error(DuplicateName, {"name": "a"}, Rules, ("a", "a"), (), ())

    def test_p10_arguments_by_name(self):
        self.assertEqual(Rules(limits=[LIMIT], needs=[NEED], jobs=ABC), Rules(ABC, [NEED], [LIMIT]))

    def test_p11_every_error_is_a_tail_error(self):
        for arguments in [([], [], []), (["A"], [], []), (["a"], [("b", [])], []), (["a"], [("a", [3])], [])]:
            with self.assertRaises(TailError):
                Rules(*arguments)


class EqualityTest(unittest.TestCase):

    def test_p15_equal(self):
        one = Rules(["a", "b", "c"], [NEED], [LIMIT])
        self.assertTrue(one == Rules(["c", "b", "a"], [("c", (("a",),))], (LIMIT,)))
        self.assertFalse(one != Rules(["b", "a", "c"], [NEED], [LIMIT]))

    def test_p15_unlike(self):
        needs = [("c", [("a",), ("b",)]), ("b", [("a",)])]
        limits = [("a", ("b",)), ("b", ("c",))]
        one = Rules(ABC, needs, limits)
        others = [
            Rules([*ABC, "d"], needs, limits), Rules(ABC, needs[::-1], limits), Rules(ABC, needs, limits[::-1]),
            Rules(ABC, needs[:1], limits), Rules(ABC, needs, limits[:1]), Rules(ABC, [], limits),
            Rules(ABC, needs, []), Rules(ABC, [*needs, needs[0]], limits), Rules(ABC, needs, [*limits, limits[0]]),
            Rules(ABC, [("c", [("b",), ("a",)]), needs[1]], limits),
        ]
        for other in others:
            self.assertFalse(one == other, str(other))
            self.assertTrue(one != other, str(other))

    def test_p10_not_equal_to_values_of_other_kinds(self):
        rules = Rules(ABC, [NEED], [LIMIT])
        for value in [*ODD_VALUES, str(rules), (rules.jobs, rules.needs, rules.limits)]:
            self.assertFalse(rules == value)
            self.assertFalse(value == rules)
            self.assertTrue(rules != value)


if __name__ == "__main__":
    unittest.main()
