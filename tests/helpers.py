"""What several test files use."""

import unittest

from tailpick.costs import Cost
from tailpick.plans import Plan
from tailpick.rules import Rules

# Values of every kind that callers may pass as "any value".
ODD_VALUES = [
    None, True, False, 0, 1, -1, 10 ** 30, "", "a", "a b", [], ["a"], ["a", "b"], {}, {"a": True},
    (1,), (True,), (None,), ("a", None), ("a", 1), (("a",),), (["a"],), ({"a": 1},), ("a", ["b"]),
    [[[[["a"]]]]], ((), ()), ("",), ("A",), ("zz",), ("a", "zz"), ("b", "a"), ("a", "a"), ("a", "b", "a"),
]


def example_plan():
    """The plan of the document's examples."""
    costs = {"a": Cost([(6, 9)]), "b": Cost([(4, 2)]), "c": Cost([(3, 1), (6, 4)])}
    return Plan(Rules.read("a b c; c: a"), {"a": 2, "b": 3, "c": 1}, costs)


class ErrorCase(unittest.TestCase):
    """A test case that looks closely at errors."""

    def assert_error(self, kind, arguments, call, *passed, **named):
        """The call raises exactly this kind of error, with these attributes; return the error."""
        with self.assertRaises(kind) as caught:
            call(*passed, **named)
        error = caught.exception
        self.assertIs(type(error), kind)
        for name, wanted in arguments.items():
            found = getattr(error, name)
            self.assertEqual(found, wanted)
            self.assertIs(type(found), type(wanted))
        return error
