"""Points 1, 4 and 12: a stack."""

import unittest
from itertools import product

from flipstack.errors import NoBack, NoPile, NoTurn, TooTall
from flipstack.fewest import fewest
from flipstack.stack import Stack
from tests.helper import (
    FORTY_FIGURES, NO_PLAIN_PILES, TALL, in_order, plain_piles, told_behind,
)

BACK = "back"


class StackCase(unittest.TestCase):
    def check(self, stack, start, turns):
        self.assertEqual(stack.turns(), turns)
        self.assertEqual(stack.pile(), told_behind(start, turns, 1))

    def do(self, stack, start, done, step):
        """Does one step to the stack and to the turns done, and holds what is told against them."""
        if step == BACK and not done:
            self.assertRaises(NoBack, stack.back)
        elif step == BACK:
            self.assertEqual(stack.back(), done.pop())
        elif not 1 <= step <= len(start):
            self.assertRaises(NoTurn, stack.turn, step)
        else:
            done.append(step)
            self.assertEqual(stack.turn(step), len(done))
        self.check(stack, start, done)


class DoneAndTakenBack(StackCase):
    def test_a_new_stack(self):
        for pile in plain_piles(4) + [TALL, [1]]:
            stack = Stack(pile)
            self.assertEqual(stack.pile(), pile)
            self.assertEqual(stack.turns(), [])

    def test_turns_made_by_hand(self):
        stack = Stack([3, 1, 4, 2])
        self.assertEqual(stack.turn(3), 1)
        self.assertEqual(stack.pile(), [4, 1, 3, 2])
        self.assertEqual(stack.turn(4), 2)
        self.assertEqual(stack.pile(), [2, 3, 1, 4])
        self.assertEqual(stack.turn(2), 3)
        self.assertEqual(stack.pile(), [3, 2, 1, 4])
        self.assertEqual(stack.turns(), [3, 4, 2])
        self.assertEqual(stack.back(), 2)
        self.assertEqual(stack.pile(), [2, 3, 1, 4])
        self.assertEqual(stack.turns(), [3, 4])
        self.assertEqual(stack.turn(1), 3)
        self.assertEqual(stack.pile(), [2, 3, 1, 4])
        self.assertEqual(stack.turns(), [3, 4, 1])
        self.assertEqual([stack.back(), stack.back(), stack.back()], [1, 4, 3])
        self.assertEqual(stack.pile(), [3, 1, 4, 2])
        self.assertEqual(stack.turns(), [])
        self.assertRaises(NoBack, stack.back)

    def test_every_order_of_few_steps(self):
        start = [2, 3, 1]
        for steps in product((BACK, 0, 1, 2, 3, 4), repeat=4):
            stack, done = Stack(start), []
            for step in steps:
                self.do(stack, start, done, step)

    def test_many_steps(self):
        stack, done = Stack(TALL), []
        for number in range(1500):
            step = number * number * 7 % 31 % 17
            self.do(stack, TALL, done, BACK if step > 12 else step)
        self.assertTrue(done)
        while done:
            self.do(stack, TALL, done, BACK)
        self.assertEqual(stack.pile(), TALL)
        self.do(stack, TALL, done, BACK)

    def test_a_pile_of_one(self):
        stack = Stack([1])
        self.assertEqual([stack.turn(1), stack.turn(1)], [1, 2])
        self.assertEqual(stack.pile(), [1])
        self.assertEqual([stack.back(), stack.back()], [1, 1])
        self.assertRaises(NoBack, stack.back)

    def test_the_same_turn_twice_is_two_turns(self):
        stack = Stack([2, 1, 3])
        self.assertEqual([stack.turn(2), stack.turn(2)], [1, 2])
        self.check(stack, [2, 1, 3], [2, 2])

    def test_fewest_is_that_of_the_pile_as_it_is(self):
        stack = Stack([3, 1, 4, 2, 5, 7, 6])
        for turn in (7, 1, 3, 6, 2, 5, 4):
            stack.turn(turn)
            self.assertEqual(stack.fewest(), fewest(stack.pile()))
        for pile in plain_piles(4):
            stack = Stack(pile)
            self.assertEqual(stack.fewest(), fewest(pile))
            for turn in stack.fewest():
                stack.turn(turn)
            self.assertEqual(stack.pile(), in_order(len(pile)))
            self.assertEqual(stack.fewest(), [])
            self.assertEqual(stack.turns(), fewest(pile))

    def test_fewest_does_nothing_to_the_stack(self):
        stack = Stack([3, 1, 4, 2])
        stack.turn(3)
        stack.fewest()
        self.check(stack, [3, 1, 4, 2], [3])

    def test_called_by_the_names_of_the_arguments(self):
        stack = Stack(pile=[2, 1])
        self.assertEqual(stack.turn(turn=2), 1)
        self.assertEqual(stack.pile(), [1, 2])


class Refused(StackCase):
    def test_no_pile(self):
        for pile in NO_PLAIN_PILES:
            with self.subTest(pile=pile):
                kept = list(pile)
                self.assertRaises(NoPile, Stack, pile)
                self.assertEqual(pile, kept)

    def test_no_turn_changes_nothing(self):
        for size in (1, 2, 7, 12):
            stack, start = Stack(in_order(size)), in_order(size)
            for done in ([], [size], [size, 1]):
                for wrong in (0, -1, -size, size + 1, 13, FORTY_FIGURES, -FORTY_FIGURES):
                    with self.subTest(size=size, wrong=wrong):
                        self.assertRaises(NoTurn, stack.turn, wrong)
                        self.check(stack, start, done)
                stack.turn(size if not done else 1)

    def test_no_back_changes_nothing(self):
        stack = Stack([3, 1, 2])
        self.assertRaises(NoBack, stack.back)
        self.check(stack, [3, 1, 2], [])
        stack.turn(3)
        stack.back()
        self.assertRaises(NoBack, stack.back)
        self.assertRaises(NoBack, stack.back)
        self.check(stack, [3, 1, 2], [])
        self.assertEqual(stack.turn(2), 1)
        self.check(stack, [3, 1, 2], [2])

    def test_too_tall_changes_nothing(self):
        for size in range(8, 13):
            stack = Stack(in_order(size))
            stack.turn(size)
            self.assertRaises(TooTall, stack.fewest)
            self.check(stack, in_order(size), [size])
            self.assertEqual(stack.back(), size)

    def test_seven_cakes_are_not_too_tall(self):
        self.assertEqual(Stack(in_order(7)[::-1]).fewest(), [7])

    def test_nothing_is_refused_that_the_document_allows(self):
        for size in range(1, 13):
            for turn in range(1, size + 1):
                self.assertEqual(Stack(in_order(size)).turn(turn), 1)


class Own(StackCase):
    def test_the_list_handed_in_is_not_changed_nor_kept(self):
        pile = [3, 1, 4, 2]
        stack = Stack(pile)
        stack.turn(4)
        stack.back()
        stack.turn(2)
        self.assertEqual(pile, [3, 1, 4, 2])
        pile.reverse()
        pile.append(99)
        self.check(stack, [3, 1, 4, 2], [2])
        pile.clear()
        self.assertEqual(stack.back(), 2)
        self.assertEqual(stack.pile(), [3, 1, 4, 2])

    def test_the_list_handed_in_may_change_ahead_of_the_first_turn(self):
        pile = [3, 1, 2]
        stack = Stack(pile)
        pile[0] = 99
        self.assertEqual(stack.pile(), [3, 1, 2])

    def test_the_lists_told_are_the_askers_own(self):
        stack = Stack([3, 1, 4, 2])
        for done in ([], [3], [3, 4]):
            for call in (stack.pile, stack.turns, stack.fewest):
                told = call()
                kept = list(told)
                self.assertIs(type(told), list)
                self.assertIsNot(call(), told)
                told.reverse()
                told.append(99)
                self.assertEqual(call(), kept)
                self.check(stack, [3, 1, 4, 2], done)
            stack.turn(3 + len(done) % 2)

    def test_what_was_told_stays_as_it_was(self):
        stack = Stack([3, 1, 2])
        pile, turns, plan = stack.pile(), stack.turns(), stack.fewest()
        stack.turn(3)
        self.assertEqual((pile, turns, plan), ([3, 1, 2], [], [3, 2]))
        turns = stack.turns()
        stack.back()
        self.assertEqual(turns, [3])

    def test_two_stacks_have_nothing_to_do_with_one_another(self):
        pile = [2, 3, 1]
        one, other = Stack(pile), Stack(pile)
        one.turn(3)
        self.check(other, pile, [])
        self.assertRaises(NoBack, other.back)
        other.turn(2)
        other.turn(1)
        self.check(one, pile, [3])
        self.assertEqual(one.back(), 3)
        self.check(other, pile, [2, 1])
        third = Stack(other.pile())
        third.turn(3)
        self.check(other, pile, [2, 1])
        self.check(third, [3, 2, 1], [3])


if __name__ == "__main__":
    unittest.main()
