import unittest

from madesure import errors

SURE = ("NoKinds", "NoKind", "NoMaker", "NoTree", "NoSheet", "NoNames", "NoTerm", "NoAnswer", "NoStep", "NoPaper",
        "NoSums", "TooWide", "NoPlain", "NoCore", "TooMany", "NoLevel", "NoDeed", "NoText", "NoLine")


class ErrorsTest(unittest.TestCase):

    def test_sure_errors_are_right_under_sure_error(self):
        self.assertEqual(errors.SureError.__bases__, (ValueError,))
        for name in SURE + ("NoFormula",):
            with self.subTest(name):
                self.assertEqual(getattr(errors, name).__bases__, (errors.SureError,))
                self.assertFalse(issubclass(getattr(errors, name), LookupError))

    def test_sure_errors_are_made_of_a_text(self):
        for name in SURE + ("SureError",):
            with self.subTest(name):
                self.assertEqual(str(getattr(errors, name)("why not")), "why not")

    def test_lack_errors_are_lookup_errors_and_no_sure_errors(self):
        self.assertEqual(errors.LackError.__bases__, (LookupError,))
        self.assertEqual(errors.NoNumber.__bases__, (errors.LackError,))
        self.assertFalse(issubclass(errors.NoNumber, errors.SureError))
        self.assertFalse(issubclass(errors.NoNumber, ValueError))
        self.assertEqual(str(errors.LackError("why not")), "why not")

    def test_numbers_are_kept(self):
        deep = ()
        for _ in range(5000):
            deep = (deep,)
        for error in (errors.NoFormula, errors.NoNumber):
            for number in (0, 7, -1, 10 ** 40, True, None, "text", [1], deep):
                made = error(number)
                self.assertIs(made.number, number)
                self.assertIsInstance(str(made), str)

    def test_each_class_is_defined_in_errors(self):
        for name in SURE + ("SureError", "NoFormula", "LackError", "NoNumber"):
            self.assertEqual(getattr(errors, name).__module__, "madesure.errors")


if __name__ == "__main__":
    unittest.main()
