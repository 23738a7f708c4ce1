"""Points 1 and 11: how many piles have a fewest plan of so many turns."""

import unittest

from flipstack.counts import burnt_counts, counts
from flipstack.errors import TooTall
from flipstack.fewest import burnt_fewest, fewest
from tests.helper import (
    FORTY_FIGURES, burnt_piles, how_many_piles, in_order, plain_piles, told_distances, told_first_plans,
)

TOLD = {
    1: [1],
    2: [1, 1],
    3: [1, 2, 2, 1],
    4: [1, 3, 6, 11, 3],
    5: [1, 4, 12, 35, 48, 20],
    6: [1, 5, 20, 79, 199, 281, 133, 2],
}
BURNT_TOLD = {
    1: [1, 1],
    2: [1, 2, 2, 2, 1],
    3: [1, 3, 6, 12, 18, 6, 2],
    4: [1, 4, 12, 36, 90, 124, 96, 18, 3],
}


def tallied(lengths):
    return [lengths.count(turns) for turns in range(max(lengths) + 1)]


class Counts(unittest.TestCase):
    CALLS = ((counts, TOLD, 1), (burnt_counts, BURNT_TOLD, -1))

    def test_each_number_of_cakes(self):
        for call, told, sign in self.CALLS:
            for size, numbers in told.items():
                with self.subTest(call=call.__name__, size=size):
                    self.assertEqual(call(size), numbers)

    def test_held_against_trying_every_list_of_turns(self):
        for call, most, sign in ((counts, 5, 1), (burnt_counts, 3, -1)):
            for size in range(1, most + 1):
                plans = told_first_plans(size, sign)
                self.assertEqual(call(size), tallied([len(turns) for turns in plans.values()]), (call, size))

    def test_held_against_how_far_each_pile_is_from_order(self):
        for call, told, sign in self.CALLS:
            for size in told:
                distances = told_distances(in_order(size), sign)
                self.assertEqual(call(size), tallied(list(distances.values())), (call, size))

    def test_held_against_the_fewest_plans_that_are_told(self):
        for call, one_call, piles, most in (
            (counts, fewest, plain_piles, 6), (burnt_counts, burnt_fewest, burnt_piles, 4),
        ):
            for size in range(1, most + 1):
                lengths = [len(one_call(pile)) for pile in piles(most) if len(pile) == size]
                self.assertEqual(call(size), tallied(lengths), (call, size))

    def test_they_add_up_to_all_piles(self):
        for call, told, sign in self.CALLS:
            for size in told:
                self.assertEqual(sum(call(size)), how_many_piles(size, sign))

    def test_one_pile_needs_none_and_the_list_ends_with_the_most(self):
        for call, told, sign in self.CALLS:
            for size in told:
                self.assertEqual(call(size)[0], 1)
                self.assertGreater(min(call(size)), 0)

    def test_what_is_told_is_the_askers_own(self):
        for call, told, sign in self.CALLS:
            first = call(3)
            self.assertIs(type(first), list)
            self.assertTrue(all(type(number) is int for number in first))
            first.append(99)
            first[0] = 7
            self.assertEqual(call(3), told[3])
            self.assertIsNot(call(3), call(3))

    def test_any_other_number_is_refused(self):
        wrong = [0, -1, -2, -6, 7, 8, 12, 13, 30, FORTY_FIGURES, -FORTY_FIGURES]
        for call, more in ((counts, []), (burnt_counts, [5, 6])):
            for size in wrong + more:
                with self.subTest(call=call.__name__, size=size):
                    self.assertRaises(TooTall, call, size)

    def test_called_by_the_name_of_its_argument(self):
        self.assertEqual(counts(size=2), [1, 1])
        self.assertEqual(burnt_counts(size=1), [1, 1])


if __name__ == "__main__":
    unittest.main()
