"""Piles, and a second, plainer telling of the document, for all the tests."""

from itertools import count, permutations, product
from math import factorial

FORTY_FIGURES = 10 ** 40 - 1

# What neither the plain nor the burnt calls take.
NO_PILES = [
    [],
    [0],
    [2],
    [12],
    [0, 1],
    [0, 1, 2],
    [1, 0],
    [1, 1],
    [2, 2],
    [1, 3],
    [2, 3],
    [3, 2],
    [1, 2, 2],
    [1, 2, 4],
    [2, 3, 4],
    [1, 1, 3],
    [1, 5, 2, 3],
    [0, 3],
    [3, 0],
    [-1, 4],
    [2, 2, 2],
    [4, 1, 1],
    [4, 4, 1, 1],
    [FORTY_FIGURES],
    [-FORTY_FIGURES],
    [1, 2, FORTY_FIGURES],
    [FORTY_FIGURES, 2, 1],
    [1, 2, 3, 4, 5, 6, 7, 8, 9, 10, 11, 13],
    [0, 1, 2, 3, 4, 5, 6, 7, 8, 9, 10, 11],
    [1, 2, 3, 4, 5, 6, 7, 8, 9, 10, 11, 11],
    list(range(1, 14)),
    list(range(13, 0, -1)),
    list(range(1, 13)) + [12],
    list(range(1, 13)) + [0],
    list(range(1, 31)),
    [1] * 30,
    [0] * 30,
]

# Most of these are burnt piles, refused by the plain calls alone.
NO_PLAIN_PILES = NO_PILES + [
    [-1],
    [1, -2],
    [-1, 2],
    [-2, -1],
    [3, -1, 2],
    [1, 2, 3, 4, 5, 6, 7, 8, 9, 10, 11, -12],
    [1, -1],
]

NO_BURNT_PILES = NO_PILES + [
    [-2],
    [1, -1],
    [-1, 1],
    [2, -2],
    [-1, -1],
    [1, 2, -2],
    [1, -1, 2],
    [3, 1, -3],
    [-1, -3],
    [-2, -3],
    [-1, 0],
    [1, 2, -FORTY_FIGURES],
    [1, 2, 3, 4, 5, 6, 7, 8, 9, 10, 11, -11],
    [-cake for cake in range(1, 14)],
    list(range(1, 13)) + [-13],
    [-cake for cake in range(1, 31)],
]

TALL = [7, 12, 1, 10, 4, 3, 9, 2, 11, 6, 5, 8]
BURNT_TALL = [7, -12, 1, -10, -4, 3, 9, 2, -11, 6, -5, 8]


def plain_piles(most):
    return [list(pile) for size in range(1, most + 1) for pile in permutations(range(1, size + 1))]


def burnt_piles(most):
    return [
        [cake * sign for cake, sign in zip(pile, signs)]
        for pile in plain_piles(most)
        for signs in product((1, -1), repeat=len(pile))
    ]


def told_turn(pile, turn, sign):
    """Turn over cake by cake; sign is 1 for a plain pile and -1 for a burnt one."""
    return [sign * pile[turn - 1 - place] if place < turn else pile[place] for place in range(len(pile))]


def told_behind(pile, turns, sign):
    for turn in turns:
        pile = told_turn(pile, turn, sign)
    return pile


def in_order(size):
    return list(range(1, size + 1))


def how_many_piles(size, sign):
    return factorial(size) * (1 if sign == 1 else 2 ** size)


def all_lists_of_turns(size):
    """Every list of turns, the shorter ones first, those as long as one another in the order of lists."""
    for length in count():
        for turns in product(range(1, size + 1), repeat=length):
            yield list(turns)


def told_first_plans(size, sign):
    """The fewest plan of each pile of so many cakes, by trying every list of turns."""
    plans = {}
    for turns in all_lists_of_turns(size):
        # A list of turns is a plan of just the pile that its turns, done from the last one up, make of the order.
        plans.setdefault(tuple(told_behind(in_order(size), reversed(turns), sign)), turns)
        if len(plans) == how_many_piles(size, sign):
            return plans


def told_first_ways(pile):
    """The fewest way from a plain pile to each one of as many cakes, by trying every list of turns."""
    ways = {}
    for turns in all_lists_of_turns(len(pile)):
        ways.setdefault(tuple(told_behind(pile, turns, 1)), turns)
        if len(ways) == how_many_piles(len(pile), 1):
            return ways


def told_distances(goal, sign):
    """How many turns each pile of as many cakes is away from the goal."""
    distances = {tuple(goal): 0}
    edge = [goal]
    while edge:
        further = []
        for pile in edge:
            for turn in range(1, len(pile) + 1):
                other = told_turn(pile, turn, sign)
                if tuple(other) not in distances:
                    distances[tuple(other)] = distances[tuple(pile)] + 1
                    further.append(other)
        edge = further
    return distances
