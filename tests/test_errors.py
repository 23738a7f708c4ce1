"""Point 4 and the interface: the classes of refusals, and that each call raises just its own."""

import unittest

from flipstack.counts import burnt_counts, counts
from flipstack.errors import BadLine, FlipError, NoBack, NoPile, NoTurn, TooTall
from flipstack.fewest import between, burnt_fewest, fewest
from flipstack.gaps import burnt_gaps, gaps
from flipstack.lines import burnt_read, read, shown
from flipstack.piles import behind, burnt_behind
from flipstack.plans import burnt_plan, plan
from flipstack.stack import Stack
from tests.helper import TALL, in_order

REFUSALS = (NoPile, NoTurn, TooTall, NoBack, BadLine)

REFUSED = (
    (NoPile, behind, ([], [])),
    (NoPile, behind, ([2], [5])),
    (NoPile, burnt_behind, ([1, -1], [9])),
    (NoPile, gaps, ([-1],)),
    (NoPile, burnt_gaps, ([0],)),
    (NoPile, plan, ([1, 1],)),
    (NoPile, burnt_plan, ([1, 3],)),
    (NoPile, fewest, (TALL + [12],)),
    (NoPile, burnt_fewest, (TALL + [-12],)),
    (NoPile, between, (TALL, in_order(13))),
    (NoPile, between, (in_order(13), TALL)),
    (NoPile, between, (in_order(3), in_order(4))),
    (NoPile, between, (TALL, in_order(11))),
    (NoPile, Stack, ([1, -2],)),
    (NoPile, shown, ([],)),
    (NoTurn, behind, ([2, 1], [3])),
    (NoTurn, burnt_behind, ([2, 1], [0])),
    (NoTurn, Stack([1]).turn, (2,)),
    (TooTall, fewest, (TALL,)),
    (TooTall, burnt_fewest, (in_order(5),)),
    (TooTall, between, (TALL, TALL)),
    (TooTall, counts, (0,)),
    (TooTall, burnt_counts, (5,)),
    (TooTall, Stack(TALL).fewest, ()),
    (NoBack, Stack([1]).back, ()),
    (BadLine, read, ("",)),
    (BadLine, read, ("1 3",)),
    (BadLine, read, ("-1",)),
    (BadLine, burnt_read, ("x",)),
    (BadLine, burnt_read, ("-1 1",)),
)


class Errors(unittest.TestCase):
    def test_flip_error_stands_straight_under_value_error(self):
        self.assertEqual(FlipError.__bases__, (ValueError,))

    def test_each_refusal_stands_straight_under_flip_error(self):
        for refusal in REFUSALS:
            with self.subTest(refusal=refusal):
                self.assertEqual(refusal.__bases__, (FlipError,))

    def test_each_refusal_is_a_class_of_its_own_under_its_name(self):
        self.assertEqual(len(set(REFUSALS)), 5)
        names = [refusal.__name__ for refusal in REFUSALS]
        self.assertEqual(names, ["NoPile", "NoTurn", "TooTall", "NoBack", "BadLine"])

    def test_each_can_be_raised_and_taken_as_value_error(self):
        for refusal in (FlipError,) + REFUSALS:
            with self.subTest(refusal=refusal):
                with self.assertRaises(ValueError):
                    raise refusal("words")

    def test_each_call_raises_its_own_refusal_and_none_of_the_other_four(self):
        for refusal, call, handed_in in REFUSED:
            with self.subTest(refusal=refusal.__name__, call=call, handed_in=handed_in):
                with self.assertRaises(ValueError) as caught:
                    call(*handed_in)
                self.assertIs(type(caught.exception), refusal)
                self.assertIsInstance(caught.exception, FlipError)
                others = [other for other in REFUSALS if isinstance(caught.exception, other)]
                self.assertEqual(others, [refusal])


if __name__ == "__main__":
    unittest.main()
