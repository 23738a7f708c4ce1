"""Gaps: how many neighbours in a pile are none in order."""

from flipstack.piles import check_burnt_pile, check_pile


def what_lies_below(pile):
    # The plate counts as one more cake, so that the lowest one lies on something too.
    return pile[1:] + [len(pile) + 1]


def is_gap(cake, below, burnt):
    if burnt:
        return below != cake + 1
    return abs(below - cake) != 1


def count_gaps(pile, burnt):
    return len([cake for cake, below in zip(pile, what_lies_below(pile)) if is_gap(cake, below, burnt)])


def gaps(pile):
    check_pile(pile)
    return count_gaps(pile, burnt=False)


def burnt_gaps(pile):
    check_burnt_pile(pile)
    return count_gaps(pile, burnt=True)
