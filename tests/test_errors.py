"""[2] and the interface: the errors."""

import unittest

from tinrecall import errors

WORDED = ["BadReading", "Taken", "NoBatch", "NoTin", "Twice", "NoPage", "NoDeed", "NoTest", "NoPacking", "NoCase"]


class ErrorsTest(unittest.TestCase):
    def test_recall_error_stands_straight_under_value_error(self):
        self.assertEqual(errors.RecallError.__bases__, (ValueError,))

    def test_each_refusal_stands_straight_under_recall_error(self):
        for name in WORDED + ["BadRow"]:
            with self.subTest(name):
                self.assertEqual(getattr(errors, name).__bases__, (errors.RecallError,))

    def test_none_stands_under_another(self):
        refusals = [getattr(errors, name) for name in WORDED + ["BadRow"]]
        for one in refusals:
            for other in refusals:
                self.assertEqual(issubclass(one, other), one == other)

    def test_there_are_no_others(self):
        found = [name for name, thing in vars(errors).items() if isinstance(thing, type)]
        self.assertEqual(sorted(found), sorted(WORDED + ["BadRow", "RecallError"]))

    def test_made_with_words(self):
        for name in WORDED + ["RecallError"]:
            with self.subTest(name):
                kind = getattr(errors, name)
                self.assertEqual(str(kind("some words")), "some words")
                with self.assertRaises(ValueError):
                    raise kind("some words")

    def test_bad_row_bears_its_row(self):
        for row in [0, 1, 59, 10 ** 30, 1 << 20000]:
            with self.subTest(row % 1000):
                made = errors.BadRow(row)
                self.assertEqual(made.row, row)
                with self.assertRaises(errors.RecallError) as caught:
                    raise made
                self.assertEqual(caught.exception.row, row)


if __name__ == "__main__":
    unittest.main()
