"""Points 1 to 4: piles, their turns, and what is refused."""

import unittest

from flipstack.errors import NoPile, NoTurn
from flipstack.piles import behind, burnt_behind
from tests.helper import (
    BURNT_TALL, FORTY_FIGURES, NO_BURNT_PILES, NO_PLAIN_PILES, TALL,
    burnt_piles, in_order, plain_piles, told_behind, told_turn,
)


class PlainTurns(unittest.TestCase):
    def test_each_turn_of_a_pile_of_five(self):
        pile = [3, 1, 5, 2, 4]
        self.assertEqual(behind(pile, [1]), [3, 1, 5, 2, 4])
        self.assertEqual(behind(pile, [2]), [1, 3, 5, 2, 4])
        self.assertEqual(behind(pile, [3]), [5, 1, 3, 2, 4])
        self.assertEqual(behind(pile, [4]), [2, 5, 1, 3, 4])
        self.assertEqual(behind(pile, [5]), [4, 2, 5, 1, 3])

    def test_each_turn_of_all_low_piles(self):
        for pile in plain_piles(5):
            for turn in range(1, len(pile) + 1):
                self.assertEqual(behind(pile, [turn]), told_turn(pile, turn, 1), (pile, turn))

    def test_no_turns(self):
        for pile in plain_piles(4) + [TALL]:
            self.assertEqual(behind(pile, []), pile)

    def test_several_turns_one_behind_the_other(self):
        self.assertEqual(behind([1, 2, 3, 4], [2, 3]), [3, 1, 2, 4])
        self.assertEqual(behind([1, 2, 3, 4], [3, 2]), [2, 3, 1, 4])
        self.assertEqual(behind([1, 2, 3, 4], [4, 4]), [1, 2, 3, 4])
        self.assertEqual(behind([3, 1, 2], [3, 1, 2, 3, 2]), told_behind([3, 1, 2], [3, 1, 2, 3, 2], 1))

    def test_many_turns(self):
        turns = [1 + step * step % 12 for step in range(200)]
        self.assertEqual(behind(TALL, turns), told_behind(TALL, turns, 1))

    def test_a_pile_of_one(self):
        self.assertEqual(behind([1], []), [1])
        self.assertEqual(behind([1], [1]), [1])
        self.assertEqual(behind([1], [1, 1, 1]), [1])

    def test_a_pile_of_twelve(self):
        self.assertEqual(behind(in_order(12), [12]), list(range(12, 0, -1)))
        self.assertEqual(behind(TALL, [11]), [5, 6, 11, 2, 9, 3, 4, 10, 1, 12, 7, 8])
        for turn in range(1, 13):
            self.assertEqual(behind(TALL, [turn]), told_turn(TALL, turn, 1), turn)

    def test_called_by_the_names_of_its_arguments(self):
        self.assertEqual(behind(pile=[2, 1], turns=[2]), [1, 2])


class BurntTurns(unittest.TestCase):
    def test_each_turn_of_a_pile_of_five(self):
        pile = [3, -1, 5, -2, 4]
        self.assertEqual(burnt_behind(pile, [1]), [-3, -1, 5, -2, 4])
        self.assertEqual(burnt_behind(pile, [2]), [1, -3, 5, -2, 4])
        self.assertEqual(burnt_behind(pile, [3]), [-5, 1, -3, -2, 4])
        self.assertEqual(burnt_behind(pile, [4]), [2, -5, 1, -3, 4])
        self.assertEqual(burnt_behind(pile, [5]), [-4, 2, -5, 1, -3])

    def test_each_turn_of_all_low_piles(self):
        for pile in burnt_piles(4):
            for turn in range(1, len(pile) + 1):
                self.assertEqual(burnt_behind(pile, [turn]), told_turn(pile, turn, -1), (pile, turn))

    def test_no_turns(self):
        for pile in burnt_piles(3) + [BURNT_TALL]:
            self.assertEqual(burnt_behind(pile, []), pile)

    def test_several_turns_one_behind_the_other(self):
        self.assertEqual(burnt_behind([1, 2, 3], [2, 3]), [-3, 1, 2])
        self.assertEqual(burnt_behind([1, 2, 3], [3, 2]), [2, 3, -1])
        self.assertEqual(burnt_behind([1, -2, 3], [3, 3]), [1, -2, 3])

    def test_many_turns(self):
        turns = [1 + step * step % 12 for step in range(200)]
        self.assertEqual(burnt_behind(BURNT_TALL, turns), told_behind(BURNT_TALL, turns, -1))

    def test_a_pile_of_one(self):
        self.assertEqual(burnt_behind([1], []), [1])
        self.assertEqual(burnt_behind([-1], []), [-1])
        self.assertEqual(burnt_behind([-1], [1]), [1])
        self.assertEqual(burnt_behind([1], [1]), [-1])
        self.assertEqual(burnt_behind([1], [1, 1]), [1])

    def test_a_pile_of_twelve(self):
        self.assertEqual(burnt_behind(in_order(12), [12]), list(range(-12, 0)))
        self.assertEqual(burnt_behind(list(range(-12, 0)), [12]), in_order(12))
        for turn in range(1, 13):
            self.assertEqual(burnt_behind(BURNT_TALL, [turn]), told_turn(BURNT_TALL, turn, -1), turn)

    def test_called_by_the_names_of_its_arguments(self):
        self.assertEqual(burnt_behind(pile=[-2, -1], turns=[2]), [1, 2])


class Own(unittest.TestCase):
    CALLS = ((behind, [3, 1, 2, 4]), (burnt_behind, [3, -1, 2, -4]))

    def test_what_is_handed_in_is_not_changed(self):
        for call, start in self.CALLS:
            for start_turns in ([], [1], [4], [2, 3, 4, 1]):
                pile, turns = list(start), list(start_turns)
                call(pile, turns)
                self.assertEqual((pile, turns), (start, start_turns))

    def test_what_is_refused_is_not_changed(self):
        for call, start in self.CALLS:
            pile, turns = list(start), [2, 3, 5]
            self.assertRaises(NoTurn, call, pile, turns)
            self.assertEqual((pile, turns), (start, [2, 3, 5]))
            pile, turns = [2, 2, 1], [2, 3]
            self.assertRaises(NoPile, call, pile, turns)
            self.assertEqual((pile, turns), ([2, 2, 1], [2, 3]))

    def test_a_list_is_told_that_was_not_handed_in(self):
        for call, start in self.CALLS:
            for turns in ([], [1], [4, 4], [3]):
                pile = list(start)
                told = call(pile, turns)
                self.assertIs(type(told), list)
                self.assertIsNot(told, pile)
                self.assertIsNot(told, turns)

    def test_a_change_of_what_was_told_changes_nothing_told_later(self):
        for call, start in self.CALLS:
            for turns in ([], [1], [3, 2]):
                pile = list(start)
                first = call(pile, turns)
                kept = list(first)
                first.reverse()
                first.append(99)
                second = call(pile, turns)
                self.assertEqual(pile, start)
                self.assertEqual(second, kept)
                self.assertIsNot(first, second)

    def test_a_later_change_of_what_was_handed_in_changes_nothing_told(self):
        for call, start in self.CALLS:
            for turns in ([], [3, 2]):
                pile = list(start)
                told = call(pile, turns)
                kept = list(told)
                pile.reverse()
                turns.append(4)
                self.assertEqual(told, kept)

    def test_the_same_list_is_looked_at_anew(self):
        for call, sign in ((behind, 1), (burnt_behind, -1)):
            pile, turns = [1, 2, 3], [2]
            self.assertEqual(call(pile, turns), told_turn([1, 2, 3], 2, sign))
            pile.reverse()
            self.assertEqual(call(pile, turns), told_turn([3, 2, 1], 2, sign))
            turns[0] = 3
            self.assertEqual(call(pile, turns), told_turn([3, 2, 1], 3, sign))


class Refused(unittest.TestCase):
    def test_no_plain_pile(self):
        for pile in NO_PLAIN_PILES:
            for turns in ([], [1]):
                with self.subTest(pile=pile, turns=turns):
                    self.assertRaises(NoPile, behind, pile, turns)

    def test_no_burnt_pile(self):
        for pile in NO_BURNT_PILES:
            for turns in ([], [1]):
                with self.subTest(pile=pile, turns=turns):
                    self.assertRaises(NoPile, burnt_behind, pile, turns)

    def test_no_turn_at_any_place(self):
        for call, pile in ((behind, [3, 1, 2]), (burnt_behind, [3, -1, 2])):
            for wrong in (0, -1, -2, -3, 4, 5, 12, FORTY_FIGURES, -FORTY_FIGURES):
                for turns in ([wrong], [wrong, 1, 2], [3, wrong, 2], [1, 2, 3, wrong], [wrong, wrong]):
                    with self.subTest(call=call.__name__, turns=turns):
                        self.assertRaises(NoTurn, call, pile, turns)

    def test_no_turn_of_the_lowest_and_of_the_tallest_piles(self):
        for call in (behind, burnt_behind):
            for size in range(1, 13):
                for wrong in (0, -1, -size, size + 1):
                    with self.subTest(call=call.__name__, size=size, wrong=wrong):
                        self.assertRaises(NoTurn, call, in_order(size), [wrong])

    def test_no_pile_where_no_turn_could_be_told_too(self):
        for turns in ([0], [-1], [31], [1, FORTY_FIGURES]):
            for pile in NO_PLAIN_PILES:
                with self.subTest(pile=pile, turns=turns):
                    self.assertRaises(NoPile, behind, pile, turns)
            for pile in NO_BURNT_PILES:
                with self.subTest(pile=pile, turns=turns):
                    self.assertRaises(NoPile, burnt_behind, pile, turns)

    def test_nothing_else_is_refused(self):
        for size in range(1, 13):
            self.assertEqual(behind(in_order(size), []), in_order(size))
            burnt = [-cake for cake in in_order(size)]
            self.assertEqual(burnt_behind(burnt, []), burnt)


if __name__ == "__main__":
    unittest.main()
