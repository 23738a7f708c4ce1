"""Gaps: how many neighbours in a pile are none in order."""

from flipstack.piles import check_burnt_pile, check_pile


def what_lies_below(pile):
    # The plate counts as one more cake, so that the lowest one lies on something too.
    return pile[1:] + [len(pile) + 1]


def gaps(pile):
    check_pile(pile)
    return len([cake for cake, below in zip(pile, what_lies_below(pile)) if abs(below - cake) != 1])


def burnt_gaps(pile):
    check_burnt_pile(pile)
    return len([cake for cake, below in zip(pile, what_lies_below(pile)) if below != cake + 1])
