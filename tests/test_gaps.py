"""Points 1, 4, 5 and 6: gaps."""

import unittest

from flipstack.errors import NoPile
from flipstack.gaps import burnt_gaps, gaps
from tests.helper import (
    BURNT_TALL, NO_BURNT_PILES, NO_PLAIN_PILES, TALL, burnt_piles, in_order, plain_piles, told_turn,
)


class PlainGaps(unittest.TestCase):
    def test_piles_with_gaps(self):
        for pile, count in (
            ([2, 1], 1),
            ([1, 3, 2], 2),
            ([2, 1, 3], 1),
            ([2, 3, 1], 2),
            ([3, 1, 2], 2),
            ([3, 2, 1], 1),
            ([2, 4, 1, 3], 4),
            ([3, 1, 4, 2], 4),
            ([1, 2, 4, 3], 2),
            ([4, 3, 2, 1], 1),
            ([3, 4, 1, 2], 2),
            ([5, 3, 1, 4, 2], 5),
            (list(range(12, 0, -1)), 1),
            ([2, 4, 6, 8, 10, 12, 1, 3, 5, 7, 9, 11], 12),
            (TALL, 10),
        ):
            with self.subTest(pile=pile):
                self.assertEqual(gaps(pile), count)

    def test_the_pile_in_order_and_no_other_has_none(self):
        for pile in plain_piles(6):
            self.assertEqual(gaps(pile) == 0, pile == in_order(len(pile)), pile)
        for size in range(1, 13):
            self.assertEqual(gaps(in_order(size)), 0)

    def test_a_turn_changes_the_gaps_by_one_at_most(self):
        for pile in plain_piles(5) + [TALL]:
            for turn in range(1, len(pile) + 1):
                change = gaps(told_turn(pile, turn, 1)) - gaps(pile)
                self.assertIn(change, (-1, 0, 1), (pile, turn))

    def test_the_plate_is_counted(self):
        self.assertEqual(gaps([3, 2, 1]) - gaps([1, 2, 3]), 1)
        self.assertEqual(gaps([11, 10, 9, 8, 7, 6, 5, 4, 3, 2, 1]), 1)


class BurntGaps(unittest.TestCase):
    def test_piles_with_gaps(self):
        for pile, count in (
            ([-1], 1),
            ([2, 1], 2),
            ([-2, -1], 1),
            ([-1, -2], 2),
            ([-1, 2], 1),
            ([1, -2], 2),
            ([2, -1], 2),
            ([-2, 1], 2),
            ([1, 3, 2], 3),
            ([3, 2, 1], 3),
            ([-3, -2, -1], 1),
            ([-1, 2, 3], 1),
            ([-2, -1, 3], 1),
            ([2, 3, 1], 2),
            ([1, 2, -3], 2),
            ([3, 1, 2], 2),
            ([-1, -2, -3, -4], 4),
            (list(range(12, 0, -1)), 12),
            (list(range(-12, 0)), 1),
            (BURNT_TALL, 12),
        ):
            with self.subTest(pile=pile):
                self.assertEqual(burnt_gaps(pile), count)

    def test_the_pile_in_order_and_no_other_has_none(self):
        for pile in burnt_piles(4):
            self.assertEqual(burnt_gaps(pile) == 0, pile == in_order(len(pile)), pile)
        for size in range(1, 13):
            self.assertEqual(burnt_gaps(in_order(size)), 0)

    def test_a_turn_changes_the_gaps_by_one_at_most(self):
        for pile in burnt_piles(4) + [BURNT_TALL]:
            for turn in range(1, len(pile) + 1):
                change = burnt_gaps(told_turn(pile, turn, -1)) - burnt_gaps(pile)
                self.assertIn(change, (-1, 0, 1), (pile, turn))


class OwnAndRefused(unittest.TestCase):
    def test_a_whole_number_is_told(self):
        for call in (gaps, burnt_gaps):
            for pile in ([1], [1, 2], [2, 1]):
                self.assertIs(type(call(pile)), int)

    def test_what_is_handed_in_is_not_changed_nor_kept(self):
        for call in (gaps, burnt_gaps):
            pile = [1, 2, 4, 3]
            count = call(pile)
            self.assertEqual(pile, [1, 2, 4, 3])
            self.assertEqual(call(pile), count)
            pile[2:] = [3, 4]
            self.assertEqual(call(pile), 0)

    def test_no_pile(self):
        for call, wrong in ((gaps, NO_PLAIN_PILES), (burnt_gaps, NO_BURNT_PILES)):
            for pile in wrong:
                with self.subTest(call=call.__name__, pile=pile):
                    self.assertRaises(NoPile, call, pile)

    def test_what_is_refused_is_not_changed(self):
        for call in (gaps, burnt_gaps):
            pile = [3, 1, 1]
            self.assertRaises(NoPile, call, pile)
            self.assertEqual(pile, [3, 1, 1])

    def test_called_by_the_name_of_its_argument(self):
        self.assertEqual(gaps(pile=[2, 1]), 1)
        self.assertEqual(burnt_gaps(pile=[2, 1]), 2)


if __name__ == "__main__":
    unittest.main()
