"""Points 1, 4, 7 and 8: the rule's plans."""

import unittest

from flipstack.errors import NoPile
from flipstack.gaps import burnt_gaps, gaps
from flipstack.plans import burnt_plan, plan
from tests.helper import (
    BURNT_TALL, NO_BURNT_PILES, NO_PLAIN_PILES, TALL,
    burnt_piles, in_order, plain_piles, told_behind, told_turn,
)


def told_plan(pile):
    turns = []
    for cake in range(len(pile), 0, -1):
        if pile[cake - 1] != cake:
            if pile[0] != cake:
                turns.append(pile.index(cake) + 1)
                pile = told_turn(pile, turns[-1], 1)
            turns.append(cake)
            pile = told_turn(pile, cake, 1)
    return turns


def told_burnt_plan(pile):
    turns = []
    for cake in range(len(pile), 0, -1):
        if pile[cake - 1] != cake:
            if abs(pile[0]) != cake:
                turns.append([abs(other) for other in pile].index(cake) + 1)
                pile = told_turn(pile, turns[-1], -1)
            if pile[0] > 0:
                turns.append(1)
                pile = told_turn(pile, 1, -1)
            turns.append(cake)
            pile = told_turn(pile, cake, -1)
    return turns


class PlainPlan(unittest.TestCase):
    def test_plans_made_by_hand(self):
        for pile, turns in (
            ([1], []),
            ([1, 2], []),
            ([2, 1], [2]),
            ([1, 3, 2], [2, 3, 2]),
            ([2, 1, 3], [2]),
            ([2, 3, 1], [2, 3]),
            ([3, 1, 2], [3, 2]),
            ([3, 2, 1], [3]),
            ([4, 3, 2, 1], [4]),
            ([2, 4, 1, 3], [2, 4, 3, 2]),
            ([3, 1, 4, 2], [3, 4, 2, 3]),
            ([2, 3, 1, 4], [2, 3]),
            ([3, 1, 2, 4], [3, 2]),
            (list(range(12, 0, -1)), [12]),
        ):
            with self.subTest(pile=pile):
                self.assertEqual(plan(pile), turns)

    def test_the_plan_as_the_rule_makes_it(self):
        for pile in plain_piles(6) + [TALL]:
            self.assertEqual(plan(pile), told_plan(pile), pile)

    def test_the_plan_puts_the_pile_in_order(self):
        for pile in plain_piles(6) + [TALL]:
            self.assertEqual(told_behind(pile, plan(pile), 1), in_order(len(pile)), pile)

    def test_how_many_turns_at_most(self):
        longest = {}
        for pile in plain_piles(6):
            size = len(pile)
            longest[size] = max(longest.get(size, 0), len(plan(pile)))
        self.assertEqual(longest, {1: 0, 2: 1, 3: 3, 4: 5, 5: 7, 6: 9})
        self.assertLessEqual(len(plan(TALL)), 21)

    def test_a_pile_in_order_needs_none(self):
        for size in range(1, 13):
            self.assertEqual(plan(in_order(size)), [])


class BurntPlan(unittest.TestCase):
    def test_plans_made_by_hand(self):
        for pile, turns in (
            ([1], []),
            ([-1], [1]),
            ([1, 2], []),
            ([-1, 2], [1]),
            ([-2, -1], [2]),
            ([2, 1], [1, 2, 1]),
            ([2, -1], [1, 2]),
            ([-2, 1], [2, 1]),
            ([1, -2], [2, 1, 2]),
            ([-1, -2], [2, 1, 2, 1]),
            ([1, 3, 2], [2, 3, 2, 1]),
            ([1, -3, 2], [2, 1, 3, 2, 1]),
            ([-3, -2, -1], [3]),
            (list(range(-12, 0)), [12]),
        ):
            with self.subTest(pile=pile):
                self.assertEqual(burnt_plan(pile), turns)

    def test_the_plan_as_the_rule_makes_it(self):
        for pile in burnt_piles(4) + [BURNT_TALL, TALL]:
            self.assertEqual(burnt_plan(pile), told_burnt_plan(pile), pile)

    def test_the_plan_puts_the_pile_in_order(self):
        for pile in burnt_piles(4) + [BURNT_TALL, TALL]:
            self.assertEqual(told_behind(pile, burnt_plan(pile), -1), in_order(len(pile)), pile)

    def test_how_many_turns_at_most(self):
        longest = {}
        for pile in burnt_piles(4):
            size = len(pile)
            longest[size] = max(longest.get(size, 0), len(burnt_plan(pile)))
        self.assertEqual(longest, {1: 1, 2: 4, 3: 7, 4: 10})
        self.assertLessEqual(len(burnt_plan(BURNT_TALL)), 34)

    def test_a_pile_in_order_needs_none(self):
        for size in range(1, 13):
            self.assertEqual(burnt_plan(in_order(size)), [])


class PlansAndGaps(unittest.TestCase):
    def test_a_plan_has_as_many_turns_as_there_are_gaps_or_more(self):
        for pile in plain_piles(6) + [TALL]:
            self.assertGreaterEqual(len(plan(pile)), gaps(pile), pile)
        for pile in burnt_piles(4) + [BURNT_TALL]:
            self.assertGreaterEqual(len(burnt_plan(pile)), burnt_gaps(pile), pile)


class OwnAndRefused(unittest.TestCase):
    PILES = ([1], [1, 2, 3], [3, 1, 4, 2])

    def test_what_is_handed_in_is_not_changed(self):
        for call in (plan, burnt_plan):
            for start in self.PILES:
                pile = list(start)
                call(pile)
                self.assertEqual(pile, start)

    def test_what_is_told_is_the_askers_own(self):
        for call in (plan, burnt_plan):
            for start in self.PILES:
                pile = list(start)
                first = call(pile)
                kept = list(first)
                self.assertIs(type(first), list)
                self.assertIsNot(first, pile)
                first.append(99)
                first.reverse()
                second = call(pile)
                self.assertIsNot(first, second)
                self.assertEqual(second, kept)
                self.assertEqual(pile, start)

    def test_a_later_change_of_what_was_handed_in(self):
        for call, later in ((plan, [4]), (burnt_plan, told_burnt_plan([4, 3, 2, 1]))):
            pile = [1, 2, 3, 4]
            told = call(pile)
            pile.reverse()
            self.assertEqual(told, [])
            self.assertEqual(call(pile), later)

    def test_no_pile(self):
        for call, wrong in ((plan, NO_PLAIN_PILES), (burnt_plan, NO_BURNT_PILES)):
            for pile in wrong:
                with self.subTest(call=call.__name__, pile=pile):
                    self.assertRaises(NoPile, call, pile)

    def test_what_is_refused_is_not_changed(self):
        for call in (plan, burnt_plan):
            pile = [3, 1, 1]
            self.assertRaises(NoPile, call, pile)
            self.assertEqual(pile, [3, 1, 1])

    def test_called_by_the_name_of_its_argument(self):
        self.assertEqual(plan(pile=[2, 1]), [2])
        self.assertEqual(burnt_plan(pile=[-2, -1]), [2])


if __name__ == "__main__":
    unittest.main()
