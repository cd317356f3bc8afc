"""The error classes: their bases, arguments and attributes."""

import unittest

from ownlists import errors

LOOKUPS = {"NoBill": ("name",), "NoPayer": ("name",), "NoNumber": ("number",), "NoFrame": ("name",)}
VALUES = {
    "Twice": ("name",), "NotGood": ("one", "other"), "BadText": (), "OtherBook": (), "Outside": ("name",),
    "BadLine": ("number",), "Stopped": ("number", "raised", "value"),
}
WORTHS = {"name": "rent", "number": 10 ** 40, "one": "ann", "other": "bob", "raised": "Outside", "value": "cid"}


class Errors(unittest.TestCase):

    def check_class(self, name, base, attributes):
        kind = getattr(errors, name)
        self.assertEqual(kind.__bases__, (base,))
        self.assertEqual((kind.__name__, kind.__module__), (name, "ownlists.errors"))
        expected = {key: WORTHS[key] for key in attributes}
        for made in (kind(*expected.values()), kind(**expected), kind(**dict(reversed(list(expected.items()))))):
            self.assertEqual(vars(made), expected)
            with self.assertRaises(base) as caught:
                raise made
            self.assertIs(caught.exception, made)
            self.assertFalse(made == kind(*expected.values()))

    def test_lookup_errors(self):
        for name, attributes in LOOKUPS.items():
            with self.subTest(name):
                self.check_class(name, LookupError, attributes)

    def test_value_errors(self):
        for name, attributes in VALUES.items():
            with self.subTest(name):
                self.check_class(name, ValueError, attributes)

    def test_no_error_class_is_beneath_another_one(self):
        kinds = [getattr(errors, name) for name in (*LOOKUPS, *VALUES)]
        for one in kinds:
            for other in kinds:
                self.assertEqual(issubclass(one, other), one is other)

    def test_these_are_all(self):
        names = [name for name, value in vars(errors).items() if isinstance(value, type)]
        self.assertEqual(sorted(names), sorted([*LOOKUPS, *VALUES]))


if __name__ == "__main__":
    unittest.main()
