"""Counts: how many piles have a fewest plan of 0 turns, of 1, and so on."""

from flipstack.errors import TooTall
from flipstack.piles import turned

MOST_PLAIN_CAKES = 6
MOST_BURNT_CAKES = 4


def check_size(size, most):
    if size < 1 or size > most:
        raise TooTall(f"counts are told of 1 to {most} cakes, not of {size}")


def one_turn_further(piles, seen, burnt):
    found = []
    for pile in piles:
        for turn in range(1, len(pile) + 1):
            other = turned(pile, turn, burnt)
            key = tuple(other)
            if key not in seen:
                seen[key] = True
                found.append(other)
    return found


def count_by_turns(size, burnt):
    # A turn done again is undone. So a pile is as many turns from the one in order
    # as its fewest plan has, and one walk from there finds them all.
    start = list(range(1, size + 1))
    seen = {tuple(start): True}
    piles = [start]
    told = []
    while piles:
        told.append(len(piles))
        piles = one_turn_further(piles, seen, burnt)
    return told


def counts(size):
    check_size(size, MOST_PLAIN_CAKES)
    return count_by_turns(size, burnt=False)


def burnt_counts(size):
    check_size(size, MOST_BURNT_CAKES)
    return count_by_turns(size, burnt=True)
