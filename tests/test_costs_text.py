"""Points 2, 11 and 34: costs as a text."""

import itertools
import unittest

from tailpick.costs import Cost
from tailpick.errors import BadCount, BadSteps, BadText, TailError
from tests.helpers import ErrorCase

BAD_TEXTS = [
    "", " ", "\n", ":", "4", "4:", ":1", "4:1 ", " 4:1", "4:1  9:7", "4:1\n", "\n4:1", "4:1\n9:7", "4 :1", "4: 1",
    "4:1:2", "4::1", "4:1 9", "4:1 :7", "4:1 9:", "4:1,9:7", "4:1;9:7", "04:1", "4:01", "00:1", "4:00", "+4:1", "4:+1",
    "-4:1", "4:-1", "4:1.0", "4:1e3", "4:0x1", "4:1_0", "1_0:4", "a:1", "4:a", "free ", " free", "Free", "FREE", "fre",
    "free free", "free 4:1", "4:1 free", "free\n", "None", "4:1 9:7 ", "4:1 09:7", "4:1 9:07", "4-1", "(4, 1)",
    "4:" + "1" * 31, "1" * 31 + ":4", "4:1 " + "9" * 31 + ":7", "0" * 31 + ":1", "4:1 free:2",
]


class WrittenTest(unittest.TestCase):

    def test_example(self):
        self.assertEqual(str(Cost([])), "free")
        self.assertEqual(str(Cost([(4, 1), (9, 7)])), "4:1 9:7")

    def test_p34_numbers_in_decimal_notation(self):
        self.assertEqual(str(Cost([(0, 10), (100, 2000)])), "0:10 100:2000")
        great = 10 ** 60 - 1
        self.assertEqual(str(Cost([(great, great)])), "9" * 60 + ":" + "9" * 60)


class ReadTest(ErrorCase):

    def test_p34_what_is_written_is_read(self):
        for text in ["free", "0:1", "4:1 9:7", "10:20 30:40 500:6000", "9" * 30 + ":" + "9" * 30, "0:" + "1" * 30,
                     " ".join(f"{at}:{at + 1}" for at in range(40))]:
            cost = Cost.read(text)
            self.assertIs(type(cost), Cost)
            self.assertEqual(str(cost), text)
        self.assertEqual(Cost.read("4:1 9:7").steps, ((4, 1), (9, 7)))
        self.assertEqual(Cost.read("free").steps, ())

    def test_p10_by_name(self):
        self.assertEqual(Cost.read(text="4:1"), Cost([(4, 1)]))

    def test_p34_texts_that_are_not_made_in_this_way(self):
        for text in BAD_TEXTS:
            with self.subTest(text=text):
                error = self.assert_error(BadText, {"text": text}, Cost.read, text)
                self.assertIs(error.text, text)

    def test_p34_then_what_the_constructor_raises(self):
        self.assert_error(BadSteps, {"value": (4, 0)}, Cost.read, "4:0")
        self.assert_error(BadSteps, {"value": (0, 0)}, Cost.read, "0:0")
        self.assert_error(BadSteps, {"value": (6, 2)}, Cost.read, "4:2 6:2")
        self.assert_error(BadSteps, {"value": (4, 3)}, Cost.read, "4:2 4:3 1:1")
        forty_one = " ".join(f"{at}:{at + 1}" for at in range(41))
        self.assert_error(BadCount, {"count": 41}, Cost.read, forty_one)
        self.assert_error(BadCount, {"count": 50}, Cost.read, " ".join(["0:0"] * 50))

    def test_p11_p34_the_text_is_looked_at_first(self):
        for text in ["4:0 9", "4:2 4:2 x", " ".join(["0:0"] * 50) + " 1", "0:0 00:1"]:
            self.assert_error(BadText, {"text": text}, Cost.read, text)

    def test_p34_all_short_texts(self):
        for length in range(1, 7):
            for signs in itertools.product("01: " if length > 4 else "019: \nf-", repeat=length):
                text = "".join(signs)
                self.assertEqual(refused(text), not made_well(text), repr(text))


def refused(text):
    """Whether the text is refused as a text; other errors come from what is written in it."""
    try:
        Cost.read(text)
    except BadText:
        return True
    except TailError:
        return False
    return False


def made_well(text):
    """Whether the text is made as point 34 says, for short texts."""
    numbers = [str(number) for number in range(1200)]
    parts = [part.split(":") for part in text.split(" ")]
    return all(len(part) == 2 and all(number in numbers for number in part) for part in parts)


if __name__ == "__main__":
    unittest.main()
