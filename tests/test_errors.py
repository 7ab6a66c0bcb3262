"""The error classes of the interface."""

import unittest

from chainkeep import errors

NAMES = (
    "BadDeed", "BadKey", "BadTurn", "OtherDeed", "NoStep", "NoKeeper", "OnlyKeeper", "OneComing", "TooMany",
)


class ErrorsTest(unittest.TestCase):
    def test_keep_error_is_straight_under_value_error(self):
        self.assertEqual(errors.KeepError.__bases__, (ValueError,))
        self.assertEqual(str(errors.KeepError("why")), "why")

    def test_each_is_straight_under_keep_error(self):
        for name in NAMES:
            with self.subTest(name=name):
                self.assertEqual(getattr(errors, name).__bases__, (errors.KeepError,))

    def test_each_is_made_from_one_text(self):
        for name in NAMES:
            with self.subTest(name=name):
                refusal = getattr(errors, name)("why not")
                self.assertEqual(str(refusal), "why not")
                self.assertIsInstance(refusal, errors.KeepError)
                self.assertIsInstance(refusal, ValueError)

    def test_none_is_another_one(self):
        for name in NAMES:
            for other in NAMES:
                if name != other:
                    with self.subTest(name=name, other=other):
                        self.assertNotIsInstance(getattr(errors, name)("why"), getattr(errors, other))

    def test_each_tells_the_name_of_its_class(self):
        for name in NAMES + ("KeepError",):
            refusal = getattr(errors, name)("why not")
            self.assertEqual(refusal.name, name)
            self.assertEqual(refusal.args, ("why not",))

    def test_each_is_called_what_the_document_calls_it(self):
        for name in NAMES:
            self.assertEqual(getattr(errors, name).__name__, name)


if __name__ == "__main__":
    unittest.main()
