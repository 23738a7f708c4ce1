"""The rule's plans: the cakes are brought to their places from the greatest one down."""

from flipstack.piles import check_burnt_pile, check_pile, pile_after, without_signs


def turns_for_cake(pile, cake, burnt):
    if pile[cake - 1] == cake:
        return []
    turns = []
    place = without_signs(pile).index(cake) + 1
    if place != 1:
        turns.append(place)
    # The last turn turns the cake over too, so its burnt side must be up ahead of it.
    if burnt and pile_after(pile, turns, burnt)[0] > 0:
        turns.append(1)
    turns.append(cake)
    return turns


def rule_plan(pile, burnt):
    now = pile
    turns = []
    for cake in range(len(pile), 0, -1):
        more = turns_for_cake(now, cake, burnt)
        turns.extend(more)
        now = pile_after(now, more, burnt)
    return turns


def plan(pile):
    check_pile(pile)
    return rule_plan(pile, burnt=False)


def burnt_plan(pile):
    check_burnt_pile(pile)
    return rule_plan(pile, burnt=True)
