import unittest

from rimehold import errors

NAMES = ["NoHouse", "NoOuts", "NoRoom", "NoHour", "NoPages", "NoLot", "NoAsks", "NoNumber", "NoMoves", "NoEach",
         "NoOrder", "NoPage", "NoOut", "Twice", "Missing", "TooMany", "NoDeed"]


class Errors(unittest.TestCase):
    def test_base_is_a_value_error(self):
        self.assertEqual(errors.RimeError.__bases__, (ValueError,))
        self.assertEqual(str(errors.RimeError("words")), "words")

    def test_each_stands_straight_under_the_base(self):
        for name in NAMES:
            with self.subTest(name):
                self.assertEqual(getattr(errors, name).__bases__, (errors.RimeError,))

    def test_each_is_made_with_a_text(self):
        for name in NAMES:
            with self.subTest(name):
                made = getattr(errors, name)("some words")
                self.assertIsInstance(made, errors.RimeError)
                self.assertIsInstance(made, ValueError)
                self.assertEqual(str(made), "some words")

    def test_each_is_none_of_the_others(self):
        for name in NAMES:
            made = getattr(errors, name)("some words")
            for other in NAMES:
                with self.subTest(name, other=other):
                    self.assertEqual(isinstance(made, getattr(errors, other)), name == other)
