"""The classes of the refusals."""

import unittest

from wholecut import errors

KINDS = ("BadProblem", "BadPoint", "BadBox", "BadWeights", "NoTurn", "BadText")


class ErrorsTest(unittest.TestCase):
    def test_any_refusal_is_a_value_error(self):
        self.assertTrue(issubclass(errors.CutError, ValueError))
        self.assertEqual(errors.CutError.__module__, "wholecut.errors")

    def test_each_kind_is_a_cut_error_and_is_defined_there(self):
        for kind in KINDS:
            found = getattr(errors, kind)
            self.assertTrue(issubclass(found, errors.CutError), kind)
            self.assertEqual((found.__module__, found.__name__), ("wholecut.errors", kind))

    def test_none_is_under_another_one(self):
        for kind in KINDS:
            for other in KINDS:
                if kind != other:
                    self.assertFalse(issubclass(getattr(errors, kind), getattr(errors, other)), (kind, other))

    def test_each_is_caught_by_cut_error_and_by_value_error(self):
        for kind in KINDS:
            for wide in (errors.CutError, ValueError):
                with self.assertRaises(wide):
                    raise getattr(errors, kind)("told")


if __name__ == "__main__":
    unittest.main()
