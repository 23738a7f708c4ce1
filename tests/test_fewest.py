"""Points 1, 4, 5, 6, 9 and 10: the fewest plans and the fewest ways."""

import unittest

from flipstack.errors import NoPile, TooTall
from flipstack.fewest import between, burnt_fewest, fewest
from flipstack.gaps import burnt_gaps, gaps
from flipstack.plans import burnt_plan, plan
from tests.helper import (
    BURNT_TALL, NO_BURNT_PILES, NO_PLAIN_PILES, TALL, burnt_piles, in_order, plain_piles,
    told_behind, told_distances, told_first_plans, told_first_ways, told_turn,
)


def of_size(piles, size):
    return [pile for pile in piles if len(pile) == size]


class FewestCase(unittest.TestCase):
    def check_first_way(self, pile, goal, turns, distances, sign):
        """Each turn goes nearer to the goal, and no lesser one does."""
        for turn in turns:
            away = distances[tuple(pile)]
            nearer = [
                other for other in range(1, len(pile) + 1)
                if distances[tuple(told_turn(pile, other, sign))] < away
            ]
            self.assertEqual(turn, nearer[0], (pile, turns))
            pile = told_turn(pile, turn, sign)
        self.assertEqual(pile, goal)


class PlainFewest(FewestCase):
    def test_plans_made_by_hand(self):
        for pile, turns in (
            ([1], []),
            ([2, 1], [2]),
            ([1, 3, 2], [2, 3, 2]),
            ([2, 1, 3], [2]),
            ([2, 3, 1], [2, 3]),
            ([3, 1, 2], [3, 2]),
            ([3, 2, 1], [3]),
            ([1, 2, 4, 3], [4, 2, 4]),
            ([2, 4, 1, 3], [2, 4, 3, 2]),
            ([7, 6, 5, 4, 3, 2, 1], [7]),
            ([3, 2, 1, 4, 5, 6, 7], [3]),
        ):
            with self.subTest(pile=pile):
                self.assertEqual(fewest(pile), turns)

    def test_the_pile_in_order_needs_none(self):
        for size in range(1, 8):
            self.assertEqual(fewest(in_order(size)), [])

    def test_the_first_of_the_fewest_of_all_low_piles(self):
        for size in range(1, 6):
            told = told_first_plans(size, 1)
            for pile in of_size(plain_piles(5), size):
                self.assertEqual(fewest(pile), told[tuple(pile)], pile)

    def test_the_first_of_the_fewest_of_piles_of_six_and_seven(self):
        for size, step in ((6, 1), (7, 11)):
            distances = told_distances(in_order(size), 1)
            for pile in of_size(plain_piles(7), size)[::step]:
                turns = fewest(pile)
                self.assertEqual(len(turns), distances[tuple(pile)], pile)
                self.check_first_way(pile, in_order(size), turns, distances, 1)

    def test_the_piles_of_six_and_seven_furthest_from_order(self):
        for size, most in ((6, 7), (7, 8)):
            distances = told_distances(in_order(size), 1)
            furthest = [list(pile) for pile, away in distances.items() if away == most]
            self.assertTrue(furthest)
            for pile in furthest:
                self.assertEqual(len(fewest(pile)), most)
                self.assertEqual(told_behind(pile, fewest(pile), 1), in_order(size))

    def test_no_fewer_turns_than_gaps_and_no_more_than_the_rule_has(self):
        for pile in plain_piles(6) + of_size(plain_piles(7), 7)[::11]:
            self.assertGreaterEqual(len(fewest(pile)), gaps(pile), pile)
            self.assertLessEqual(len(fewest(pile)), len(plan(pile)), pile)

    def test_too_tall_from_eight_cakes_on(self):
        self.assertRaises(TooTall, fewest, TALL)
        for size in range(8, 13):
            with self.subTest(size=size):
                self.assertRaises(TooTall, fewest, in_order(size))
                self.assertRaises(TooTall, fewest, in_order(size)[::-1])


class BurntFewest(FewestCase):
    def test_plans_made_by_hand(self):
        for pile, turns in (
            ([1], []),
            ([-1], [1]),
            ([-1, 2], [1]),
            ([-2, -1], [2]),
            ([2, 1], [1, 2, 1]),
            ([2, -1], [1, 2]),
            ([-2, 1], [2, 1]),
            ([1, -2], [2, 1, 2]),
            ([-1, -2], [1, 2, 1, 2]),
            ([-4, -3, -2, -1], [4]),
        ):
            with self.subTest(pile=pile):
                self.assertEqual(burnt_fewest(pile), turns)

    def test_the_pile_in_order_needs_none(self):
        for size in range(1, 5):
            self.assertEqual(burnt_fewest(in_order(size)), [])

    def test_the_first_of_the_fewest_of_all_low_piles(self):
        for size in range(1, 4):
            told = told_first_plans(size, -1)
            for pile in of_size(burnt_piles(3), size):
                self.assertEqual(burnt_fewest(pile), told[tuple(pile)], pile)

    def test_the_first_of_the_fewest_of_piles_of_four(self):
        distances = told_distances(in_order(4), -1)
        for pile in of_size(burnt_piles(4), 4):
            turns = burnt_fewest(pile)
            self.assertEqual(len(turns), distances[tuple(pile)], pile)
            self.check_first_way(pile, in_order(4), turns, distances, -1)

    def test_no_fewer_turns_than_gaps_and_no_more_than_the_rule_has(self):
        for pile in burnt_piles(4):
            self.assertGreaterEqual(len(burnt_fewest(pile)), burnt_gaps(pile), pile)
            self.assertLessEqual(len(burnt_fewest(pile)), len(burnt_plan(pile)), pile)

    def test_too_tall_from_five_cakes_on(self):
        self.assertRaises(TooTall, burnt_fewest, BURNT_TALL)
        for size in range(5, 13):
            with self.subTest(size=size):
                self.assertRaises(TooTall, burnt_fewest, in_order(size))
                self.assertRaises(TooTall, burnt_fewest, [-cake for cake in in_order(size)])


class Between(FewestCase):
    def test_ways_made_by_hand(self):
        for one, other, turns in (
            ([1], [1], []),
            ([1, 2], [2, 1], [2]),
            ([1, 2, 3], [3, 2, 1], [3]),
            ([1, 2, 3], [3, 1, 2], [2, 3]),
            ([3, 1, 2], [1, 2, 3], [3, 2]),
            ([2, 1, 3], [2, 3, 1], [2, 3, 2]),
            ([3, 1, 2, 4], [4, 2, 1, 3], [4]),
        ):
            with self.subTest(one=one, other=other):
                self.assertEqual(between(one, other), turns)

    def test_two_piles_alike(self):
        for pile in plain_piles(5) + [[4, 7, 1, 3, 6, 2, 5], in_order(7)]:
            self.assertEqual(between(pile, list(pile)), [])
            self.assertEqual(between(pile, pile), [])

    def test_the_first_of_the_fewest_of_all_low_piles(self):
        for one in plain_piles(4):
            told = told_first_ways(one)
            for other in of_size(plain_piles(4), len(one)):
                self.assertEqual(between(one, other), told[tuple(other)], (one, other))

    def test_the_first_of_the_fewest_from_one_pile_to_all_others(self):
        one = [3, 5, 1, 4, 2]
        for other, turns in told_first_ways(one).items():
            self.assertEqual(between(one, list(other)), turns, other)

    def test_the_first_of_the_fewest_of_taller_piles(self):
        for other, step in (([3, 5, 1, 6, 4, 2], 7), ([4, 7, 1, 3, 6, 2, 5], 101)):
            distances = told_distances(other, 1)
            for one in of_size(plain_piles(7), len(other))[::step]:
                turns = between(one, other)
                self.assertEqual(len(turns), distances[tuple(one)], one)
                self.check_first_way(one, other, turns, distances, 1)

    def test_there_and_back(self):
        for one in of_size(plain_piles(5), 5)[::7] + of_size(plain_piles(6), 6)[::97]:
            for other in of_size(plain_piles(6), len(one))[::19]:
                there = between(one, other)
                back = between(other, one)
                self.assertEqual(told_behind(one, there, 1), other)
                self.assertEqual(told_behind(other, back, 1), one)
                self.assertEqual(len(there), len(back))

    def test_to_the_pile_in_order_it_is_the_fewest_plan(self):
        for pile in plain_piles(5) + of_size(plain_piles(7), 7)[::211]:
            self.assertEqual(between(pile, in_order(len(pile))), fewest(pile))

    def test_no_pile_for_either_of_the_two(self):
        for pile in NO_PLAIN_PILES:
            for other in ([1], in_order(len(pile)), in_order(7), in_order(8), TALL, pile):
                with self.subTest(pile=pile, other=other):
                    self.assertRaises(NoPile, between, pile, other)
                    self.assertRaises(NoPile, between, other, pile)

    def test_no_pile_where_they_have_not_as_many_cakes(self):
        for size in range(1, 13):
            for other in range(1, 13):
                if size != other:
                    with self.subTest(size=size, other=other):
                        self.assertRaises(NoPile, between, in_order(size), in_order(other)[::-1])

    def test_too_tall_from_eight_cakes_on(self):
        self.assertRaises(TooTall, between, TALL, TALL)
        for size in range(8, 13):
            with self.subTest(size=size):
                self.assertRaises(TooTall, between, in_order(size), in_order(size))
                self.assertRaises(TooTall, between, in_order(size), in_order(size)[::-1])

    def test_seven_cakes_are_not_too_tall(self):
        self.assertEqual(between(in_order(7), in_order(7)[::-1]), [7])


class Own(unittest.TestCase):
    CALLS = (
        (fewest, ([3, 1, 4, 2],)),
        (fewest, ([1, 2, 3],)),
        (burnt_fewest, ([3, -1, 2],)),
        (burnt_fewest, ([1, 2, 3],)),
        (between, ([3, 1, 4, 2], [4, 3, 1, 2])),
        (between, ([3, 1, 2], [3, 1, 2])),
    )

    def test_what_is_handed_in_is_not_changed(self):
        for call, start in self.CALLS:
            piles = [list(pile) for pile in start]
            call(*piles)
            self.assertEqual(tuple(piles), start)

    def test_what_is_told_is_the_askers_own(self):
        for call, start in self.CALLS:
            piles = [list(pile) for pile in start]
            first = call(*piles)
            kept = list(first)
            self.assertIs(type(first), list)
            for pile in piles:
                self.assertIsNot(first, pile)
            first.append(99)
            first.reverse()
            second = call(*piles)
            self.assertIsNot(first, second)
            self.assertEqual(second, kept)
            self.assertEqual(tuple(piles), start)

    def test_a_later_change_of_what_was_handed_in(self):
        pile, other = [1, 2, 3], [1, 2, 3]
        told = [fewest(pile), burnt_fewest(pile), between(pile, other)]
        pile.reverse()
        self.assertEqual(told, [[], [], []])
        self.assertEqual(fewest(pile), [3])
        self.assertEqual(burnt_fewest(pile), told_first_plans(3, -1)[(3, 2, 1)])
        self.assertEqual(between(pile, other), [3])
        other.reverse()
        self.assertEqual(between(pile, other), [])

    def test_what_is_refused_is_not_changed(self):
        for call in (fewest, burnt_fewest):
            for start, refusal in (([3, 1, 1], NoPile), (TALL, TooTall)):
                pile = list(start)
                self.assertRaises(refusal, call, pile)
                self.assertEqual(pile, start)
        for one, other, refusal in (([2, 1], [1, 2, 3], NoPile), (TALL, in_order(12), TooTall)):
            first, second = list(one), list(other)
            self.assertRaises(refusal, between, first, second)
            self.assertEqual((first, second), (one, other))

    def test_no_pile_ahead_of_too_tall(self):
        for call, wrong in ((fewest, NO_PLAIN_PILES), (burnt_fewest, NO_BURNT_PILES)):
            self.assertTrue(any(len(pile) > 7 for pile in wrong))
            for pile in wrong:
                with self.subTest(call=call.__name__, pile=pile):
                    self.assertRaises(NoPile, call, pile)

    def test_called_by_the_names_of_its_arguments(self):
        self.assertEqual(fewest(pile=[2, 1]), [2])
        self.assertEqual(burnt_fewest(pile=[-2, -1]), [2])
        self.assertEqual(between(one=[3, 1, 2], other=[1, 2, 3]), [3, 2])
        self.assertEqual(between(other=[3, 1, 2], one=[1, 2, 3]), [2, 3])


if __name__ == "__main__":
    unittest.main()
