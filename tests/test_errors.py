"""The interface of quiltlaw.errors."""

import inspect
import unittest

from quiltlaw import errors

OF_A_WHY = ("NoPicture", "NoGrammar", "NoTree")
OF_A_TEXT = ("NoFit", "NoRule", "NoName", "TooMany", "NoNumber", "NoRow")
UNDER_QUILT_ERROR = OF_A_WHY + OF_A_TEXT + ("NoText", "NoWord")


class ErrorsTest(unittest.TestCase):
    def test_quilt_error_stands_straight_under_value_error(self):
        self.assertEqual(errors.QuiltError.__bases__, (ValueError,))

    def test_each_other_stands_straight_under_quilt_error(self):
        for name in UNDER_QUILT_ERROR:
            with self.subTest(name):
                self.assertEqual(getattr(errors, name).__bases__, (errors.QuiltError,))

    def test_there_is_no_other_error(self):
        classes = [name for name, value in vars(errors).items() if inspect.isclass(value)]
        self.assertEqual(sorted(classes), sorted(UNDER_QUILT_ERROR + ("QuiltError",)))

    def test_made_of_a_why(self):
        for name in OF_A_WHY:
            for why in (("rows", 7), ("sign", 2, 5), ("signs",), ("fit", (0, 1))):
                with self.subTest(name, why=why):
                    error = getattr(errors, name)(why)
                    self.assertEqual(error.why, why)
                    self.assertIs(type(error.why), tuple)

    def test_made_of_a_row(self):
        for row in (0, 1, 17):
            self.assertEqual(errors.NoText(row).row, row)

    def test_made_of_at(self):
        for at in (0, 1, 200):
            self.assertEqual(errors.NoWord(at).at, at)

    def test_made_of_a_text(self):
        for name in OF_A_TEXT:
            with self.subTest(name):
                with self.assertRaises(errors.QuiltError) as caught:
                    raise getattr(errors, name)("some words")
                self.assertEqual(str(caught.exception), "some words")

    def test_two_errors_have_values_of_their_own(self):
        one, other = errors.NoPicture(("rows", 0)), errors.NoPicture(("row", 1))
        self.assertEqual((one.why, other.why), (("rows", 0), ("row", 1)))


if __name__ == "__main__":
    unittest.main()
