"""The fewest plans and ways: of those with the fewest turns the first in the order of lists."""

from flipstack.errors import NoPile, TooTall
from flipstack.gaps import count_gaps
from flipstack.piles import check_burnt_pile, check_pile, turned
from flipstack.plans import rule_plan

MOST_PLAIN_CAKES = 7
MOST_BURNT_CAKES = 4


def check_height(pile, most):
    size = len(pile)
    if size > most:
        raise TooTall(f"the fewest turns are told of at most {most} cakes, not of {size}")


def plan_within(pile, most, burnt):
    left = count_gaps(pile, burnt)
    # A turn takes away one gap at most, so as many turns as gaps are needed.
    if left > most:
        return None
    if left == 0:
        return []
    for turn in range(1, len(pile) + 1):
        rest = plan_within(turned(pile, turn, burnt), most - 1, burnt)
        if rest is not None:
            return [turn] + rest
    return None


def fewest_plan(pile, burnt):
    longest = rule_plan(pile, burnt)
    # One turn more is allowed only where fewer don't do. So all plans within
    # the bound have as many turns, and the lesser turns, tried first, give the first.
    for most in range(count_gaps(pile, burnt), len(longest) + 1):
        found = plan_within(pile, most, burnt)
        if found is not None:
            return found
    # Never reached for a pile, since the rule's plan is one; a list is told all the same.
    return longest


def fewest(pile):
    check_pile(pile)
    check_height(pile, MOST_PLAIN_CAKES)
    return fewest_plan(pile, burnt=False)


def burnt_fewest(pile):
    check_burnt_pile(pile)
    check_height(pile, MOST_BURNT_CAKES)
    return fewest_plan(pile, burnt=True)


def between(one, other):
    check_pile(one)
    check_pile(other)
    if len(one) != len(other):
        raise NoPile("the two piles have not as many cakes")
    check_height(one, MOST_PLAIN_CAKES)
    # Turns go by places. With each cake called by its place in the other pile,
    # the other pile is the one in order, and a way to it is a plan.
    return fewest_plan([other.index(cake) + 1 for cake in one], burnt=False)
