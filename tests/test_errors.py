"""Points 11 and 12: the errors and their arguments."""

import unittest

from tailpick import errors

ARGUMENTS = {
    "BadName": ["name"], "DuplicateName": ["name"], "UnknownName": ["name"], "BadCount": ["count"],
    "BadText": ["text"], "BadSet": ["value"], "BadOrder": ["value"], "NotAllowed": ["value"],
    "NoOrder": ["value"], "BadNumber": ["value"], "BadSteps": ["value"], "IsTame": [], "NotTame": ["value"],
    "UnlikeJobs": ["names"], "NothingToUndo": [],
}


class ErrorsTest(unittest.TestCase):

    def test_p11_tail_error_is_a_value_error(self):
        self.assertEqual(errors.TailError.__bases__, (ValueError,))

    def test_p11_all_others_stand_under_tail_error_and_none_under_another(self):
        for name in ARGUMENTS:
            self.assertEqual(getattr(errors, name).__bases__, (errors.TailError,), name)

    def test_p12_there_are_just_these_errors_and_each_is_defined_here(self):
        found = [name for name, value in vars(errors).items() if isinstance(value, type)]
        self.assertEqual(sorted(found), sorted(["TailError", *ARGUMENTS]))
        for name in found:
            self.assertEqual(getattr(errors, name).__module__, "tailpick.errors")

    def test_p11_p12_an_error_keeps_the_very_argument(self):
        values = [None, True, 0, 10 ** 6000, "a", "", ["a", ["b"]], {"a": [1]}, ((), {}), ("a",)]
        for name, arguments in ARGUMENTS.items():
            for value in values if arguments else []:
                error = getattr(errors, name)(value)
                self.assertIs(getattr(error, arguments[0]), value, name)
                error = getattr(errors, name)(**{arguments[0]: value})
                self.assertIs(getattr(error, arguments[0]), value, name)

    def test_p12_an_error_neither_copies_nor_changes_a_list(self):
        value = ["a"]
        error = errors.BadSet(value)
        value.append("b")
        self.assertEqual(error.value, ["a", "b"])

    def test_p12_errors_without_arguments(self):
        for kind in [errors.IsTame, errors.NothingToUndo]:
            with self.assertRaises(errors.TailError):
                raise kind()

    def test_p12_an_argument_is_asked_for(self):
        for name, arguments in ARGUMENTS.items():
            if arguments:
                with self.assertRaises(TypeError):
                    getattr(errors, name)()

    def test_p11_errors_can_be_raised_and_caught_as_value_errors(self):
        for name, arguments in ARGUMENTS.items():
            with self.assertRaises(ValueError):
                raise getattr(errors, name)(*["a" for _ in arguments])


if __name__ == "__main__":
    unittest.main()
