"""The refusals of the interface."""

import unittest

from piecebounds.errors import CutError, NoCommand, NoMany, NoNumber, NoPlace, NoText

KINDS = (NoMany, NoPlace, NoNumber, NoText, NoCommand)


class Errors(unittest.TestCase):
    def test_any_refusal_is_a_value_error(self):
        self.assertEqual(CutError.__bases__, (ValueError,))

    def test_each_kind_is_a_cut_error(self):
        for kind in KINDS:
            with self.subTest(kind=kind.__name__):
                with self.assertRaises(CutError):
                    raise kind("why")
                self.assertTrue(issubclass(kind, ValueError))

    def test_no_kind_stands_under_another(self):
        for kind in KINDS:
            for other in KINDS:
                with self.subTest(kind=kind.__name__, other=other.__name__):
                    self.assertEqual(issubclass(kind, other), kind is other)


if __name__ == "__main__":
    unittest.main()
