"""Point 4 and the interface: the classes of refusals."""

import unittest

from flipstack.errors import BadLine, FlipError, NoBack, NoPile, NoTurn, TooTall

REFUSALS = (NoPile, NoTurn, TooTall, NoBack, BadLine)


class Errors(unittest.TestCase):
    def test_flip_error_stands_straight_under_value_error(self):
        self.assertEqual(FlipError.__bases__, (ValueError,))

    def test_each_refusal_stands_straight_under_flip_error(self):
        for refusal in REFUSALS:
            with self.subTest(refusal=refusal):
                self.assertEqual(refusal.__bases__, (FlipError,))

    def test_each_refusal_is_a_class_of_its_own_under_its_name(self):
        self.assertEqual(len(set(REFUSALS)), 5)
        names = [refusal.__name__ for refusal in REFUSALS]
        self.assertEqual(names, ["NoPile", "NoTurn", "TooTall", "NoBack", "BadLine"])

    def test_each_can_be_raised_and_taken_as_value_error(self):
        for refusal in (FlipError,) + REFUSALS:
            with self.subTest(refusal=refusal):
                with self.assertRaises(ValueError):
                    raise refusal("words")


if __name__ == "__main__":
    unittest.main()
