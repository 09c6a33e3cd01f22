"""Points 2, 3 and 13: names."""

import itertools
import unittest

from tailpick.naming import valid_name

LETTERS = "abcdefghijklmnopqrstuvwxyz"
DIGITS = "0123456789"
ASCII = [chr(code) for code in [10, *range(32, 127)] if chr(code) != "%"]


class NamingTest(unittest.TestCase):

    def test_example(self):
        found = [valid_name("build"), valid_name("a1"), valid_name("1a"), valid_name("Test"), valid_name("release")]
        self.assertEqual(found, [True, True, False, False, False])

    def test_p3_lengths(self):
        self.assertIs(valid_name(""), False)
        for length in range(1, 7):
            self.assertIs(valid_name("a" * length), True)
            self.assertIs(valid_name("z" + "9" * (length - 1)), True)
        for length in [7, 8, 100, 10000]:
            self.assertIs(valid_name("a" * length), False)

    def test_p2_p3_each_character_at_each_place(self):
        for sign in ASCII:
            self.assertIs(valid_name(sign), sign in LETTERS, sign)
            for ahead, behind in itertools.product(["", "a", "b1"], ["", "c", "2d"]):
                wanted = sign in LETTERS or (sign in DIGITS and ahead != "")
                self.assertIs(valid_name(ahead + sign + behind), wanted, ahead + sign + behind)

    def test_p13_newlines_and_spaces_around_a_name(self):
        for text in ["a\n", "\na", " a", "a ", "a b", "\n", " "]:
            self.assertIs(valid_name(text), False)

    def test_p13_by_name(self):
        self.assertIs(valid_name(text="a"), True)


if __name__ == "__main__":
    unittest.main()
