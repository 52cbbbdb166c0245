"""The error classes [2], [28]."""

import unittest

from builtahead import errors

VALUES = {
    "BadLine": ["number"], "BadText": ["piece"], "Known": ["name"], "NoMade": ["name"], "NoName": ["name"],
    "NoNumber": ["number"], "NotEven": ["array"], "NotMade": [], "NothingDone": [], "Stuck": [],
}


class ErrorsTest(unittest.TestCase):

    def test_made_error_stands_under_value_error(self):
        self.assertEqual(errors.MadeError.__bases__, (ValueError,))

    def test_all_others_stand_directly_under_made_error(self):
        for word in VALUES:
            kind = getattr(errors, word)
            self.assertEqual(kind.__bases__, (errors.MadeError,), word)
            self.assertTrue(issubclass(kind, ValueError))
            self.assertEqual(kind.__module__, "builtahead.errors")

    def test_values_by_place_and_by_name(self):
        for word, values in VALUES.items():
            kind = getattr(errors, word)
            for told in ("abc", 7, -1, 10 ** 30):
                by_place = kind(*[told for _ in values])
                by_name = kind(**{value: told for value in values})
                self.assertEqual(vars(by_place), {value: told for value in values})
                self.assertEqual(vars(by_name), {value: told for value in values})

    def test_they_can_be_raised_and_caught(self):
        for word, values in VALUES.items():
            kind = getattr(errors, word)
            with self.assertRaises(errors.MadeError) as caught:
                raise kind(*[3 for _ in values])
            self.assertIs(type(caught.exception), kind)
            with self.assertRaises(ValueError):
                raise kind(*[3 for _ in values])


if __name__ == "__main__":
    unittest.main()
