"""Points 2, 18 and 19: rules as a text."""

import itertools
import unittest

from tailpick.errors import BadCount, BadName, BadSet, BadText, DuplicateName, NoOrder, TailError, UnknownName
from tailpick.rules import Rules
from tests.helpers import ErrorCase

GOOD_TEXTS = [
    "a", "a b c d e f", "a b; b: a", "a b; b: -", "a b; b: - | a | -", "a b; a > b",
    "a b c; c: a b | -; a > b c", "a b c; c: a; c: b; b: a | -; a > b; b > c; a > b c", "a10 a9 z; z: a10 a9",
    "a b; b: a" + " | a" * 5, "a b" + "; b: a" * 12 + "; a > b" * 12,
]
BAD_TEXTS = [
    "", " ", "-", ";", ":", ">", "|", "\n", "; ", "a ", " a", "a  b", "a\n", "\na", "a\nb", "a b ", "b a", "a c b",
    "a b;", "a b; ", "a b ;", "a b; ; b: a", "a b;b: a", "a b;  b: a", "a b ; b: a", "a b;\nb: a", "; b: a",
    "a b; b", "a b; b:", "a b; b: ", "a b; b:a", "a b; b:  a", "a b; b : a", "a b; b :a", "a b; : a", "a b; b: a ",
    "a b; b: a;", "a b; b: a; ", "a b; b: a |", "a b; b: a | ", "a b; b: | a", "a b; b:  | a", "a b; b: a|a",
    "a b; b: a |a", "a b; b: a| a", "a b; b: a |  | a", "a b; b: a || a", "a b; b: - -", "a b; b: a -", "a b; b: - a",
    "a b; b: -a", "a b; b: a-", "a b; -: a", "a b; b: --", "a b; b: a: a", "a b; b: : a", "a b; b: a: ", "a b; b b: a",
    "a b; a >", "a b; a > ", "a b; > b", "a b;  > b", "a b; a>b", "a b; a> b", "a b; a >b", "a b; a  > b",
    "a b; a >  b", "a b; a > b > b", "a b; a > b | b", "a b; a > b |", "a b; a: b > b", "a b; a > b: b", "a b; a > b ",
    "a b; a > b;", "a b; a > b; ", "a b; a a > b", "a b; - > b", "a b; a > - -", "a b; a > b; b: a",
    "a b; b: a; a > b; b: a", "a b; a > b; b", "a - b", "a-b", "a:b", "a|b", "a>b", "a: b", "a > b", "a b | c",
    "- a", "a b; b: a\n", "a b; a > b\n", "a b\n; b: a",
]


class WrittenTest(unittest.TestCase):

    def test_p18_example(self):
        rules = Rules(["c", "a", "b"], [("c", [("a", "b"), ()])], [("a", ("b", "c"))])
        self.assertEqual(str(rules), "a b c; c: a b | -; a > b c")

    def test_p18_one_job(self):
        self.assertEqual(str(Rules(["build"], [], [])), "build")
        self.assertEqual(str(Rules(["build"], [("build", [(), ()])], [])), "build; build: - | -")

    def test_p18_needs_stand_ahead_of_limits_in_the_given_order(self):
        needs = [("c", [("b",), ("a",)]), ("b", [()])]
        limits = [("b", ("c",)), ("a", ("b", "c"))]
        self.assertEqual(str(Rules(["b", "c", "a"], needs, limits)), "a b c; c: b | a; b: -; b > c; a > b c")


class ReadTest(ErrorCase):

    def test_example(self):
        self.assertEqual(Rules.read("a b; b: a"), Rules(["a", "b"], [("b", [("a",)])], []))

    def test_p19_what_is_written_is_read(self):
        for text in GOOD_TEXTS:
            rules = Rules.read(text)
            self.assertIs(type(rules), Rules)
            self.assertEqual(str(rules), text)
            self.assertEqual(rules, Rules(rules.jobs, rules.needs, rules.limits))

    def test_p19_parts(self):
        rules = Rules.read("a b c; c: a b | -; b: a; a > b c")
        self.assertEqual(rules.jobs, ("a", "b", "c"))
        self.assertEqual(rules.needs, (("c", (("a", "b"), ())), ("b", (("a",),))))
        self.assertEqual(rules.limits, (("a", ("b", "c")),))

    def test_p10_by_name(self):
        self.assertEqual(str(Rules.read(text="a b")), "a b")

    def test_p19_texts_that_are_not_made_in_this_way(self):
        for text in BAD_TEXTS:
            with self.subTest(text=text):
                error = self.assert_error(BadText, {"text": text}, Rules.read, text)
                self.assertIs(error.text, text)

    def test_p19_equal_words_may_follow_each_other(self):
        self.assert_error(DuplicateName, {"name": "a"}, Rules.read, "a a b")
        self.assert_error(BadText, {"text": "a b a"}, Rules.read, "a b a")

    def test_p19_then_what_the_constructor_raises(self):
        self.assert_error(BadCount, {"count": 7}, Rules.read, "a b c d e f g")
        self.assert_error(BadName, {"name": "A"}, Rules.read, "A a")
        self.assert_error(BadName, {"name": "release"}, Rules.read, "a release")
        self.assert_error(BadName, {"name": "!b_c.d(1)"}, Rules.read, "!b_c.d(1) a")
        self.assert_error(BadCount, {"count": 13}, Rules.read, "a b" + "; b: a" * 13)
        self.assert_error(UnknownName, {"name": "c"}, Rules.read, "a b; c: a")
        self.assert_error(BadCount, {"count": 7}, Rules.read, "a b; b: a" + " | a" * 6)
        self.assert_error(BadSet, {"value": ("b", "a")}, Rules.read, "a b c; c: b a")
        self.assert_error(BadSet, {"value": ("a", "a")}, Rules.read, "a b; b: - | a a | c")
        self.assert_error(BadSet, {"value": ("b",)}, Rules.read, "a b; b: b")
        self.assert_error(BadSet, {"value": ("C", "a")}, Rules.read, "a b; b: C a")
        self.assert_error(BadCount, {"count": 13}, Rules.read, "a b" + "; a > b" * 13)
        self.assert_error(UnknownName, {"name": "c"}, Rules.read, "a b; c > a")
        self.assert_error(BadSet, {"value": ()}, Rules.read, "a b; a > -")
        self.assert_error(BadSet, {"value": ("c", "b")}, Rules.read, "a b c; a > c b")
        self.assert_error(NoOrder, {"value": ("c",)}, Rules.read, "a b c; a: b; b: a")

    def test_p11_p19_the_text_is_looked_at_first(self):
        for text in ["a a b; ", "a b c d e f g;", "A a; b", "a b; c: a; b:", "a b; a > -; b: a", "a b; a: b; b: a "]:
            self.assert_error(BadText, {"text": text}, Rules.read, text)
        self.assert_error(BadText, {"text": "a b" + "; b: a" * 13 + ";"}, Rules.read, "a b" + "; b: a" * 13 + ";")

    def test_p2_p19_all_short_texts(self):
        # What is read without BadText is just what a slow reading by the words of the point takes.
        for length in range(1, 6):
            for signs in itertools.product("ab ;:>|-\n" if length < 5 else "ab ;:>-", repeat=length):
                text = "".join(signs)
                self.assertEqual(refused(text), not made_well(text), repr(text))

    def test_p19_all_short_texts_behind_a_job(self):
        for start in ["a b; b: a", "a b; a > b", "a b; b"]:
            for length in range(1, 5):
                for signs in itertools.product("a ;:>|-", repeat=length):
                    text = start + "".join(signs)
                    self.assertEqual(refused(text), not made_well(text), repr(text))


def refused(text):
    """Whether the text is refused as a text; other errors come from what is written in it."""
    try:
        Rules.read(text)
    except BadText:
        return True
    except TailError:
        return False
    return False


def split_at(signs, mark):
    """Split a list of signs at each place where the list mark stands."""
    for at in range(len(signs) - len(mark) + 1):
        if signs[at:at + len(mark)] == mark:
            return [signs[:at], *split_at(signs[at + len(mark):], mark)]
    return [signs]


def marks_of(text):
    """The text as a list of words, written W, and of marks."""
    found = []
    for sign in text:
        if sign in " \n;:|>-":
            found.append(sign)
        elif not found or found[-1] != "W":
            found.append("W")
    return found


def is_words(signs):
    return all(word == ["W"] for word in split_at(signs, [" "]))


def is_set_text(signs):
    return signs == ["-"] or is_words(signs)


def is_need_text(signs):
    sides = signs[:3] == ["W", ":", " "]
    return sides and all(is_set_text(part) for part in split_at(signs[3:], [" ", "|", " "]))


def is_limit_text(signs):
    return signs[:4] == ["W", " ", ">", " "] and is_set_text(signs[4:])


def made_well(text):
    """Whether the text is made as point 19 says, read in another way than the program does."""
    first, *rest = split_at(marks_of(text), [";", " "])
    kinds = ["need" if is_need_text(part) else "limit" if is_limit_text(part) else "none" for part in rest]
    words = text.partition("; ")[0].split(" ")
    return is_words(first) and "none" not in kinds and kinds == sorted(kinds, reverse=True) and words == sorted(words)


if __name__ == "__main__":
    unittest.main()
