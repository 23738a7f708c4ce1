"""Plain and burnt piles: what is one, and what turns make of it."""

from flipstack.errors import NoPile, NoTurn

MOST_CAKES = 12


def check_pile(pile):
    size = len(pile)
    if size < 1 or size > MOST_CAKES:
        raise NoPile(f"a pile has 1 to {MOST_CAKES} cakes, not {size}")
    if sorted(pile) != list(range(1, size + 1)):
        raise NoPile(f"the cakes are not those from 1 to {size}, each once")


def without_signs(pile):
    return [abs(cake) for cake in pile]


def check_burnt_pile(pile):
    check_pile(without_signs(pile))


def check_turns(pile, turns):
    size = len(pile)
    for turn in turns:
        if turn < 1 or turn > size:
            raise NoTurn(f"a pile of {size} cakes has no turn {turn}")


def turned(pile, turn, burnt):
    upper = list(reversed(pile[:turn]))
    if burnt:
        upper = [-cake for cake in upper]
    return upper + pile[turn:]


def pile_after(pile, turns, burnt):
    # A copy, for without turns the asker would get the very list handed in.
    now = list(pile)
    for turn in turns:
        now = turned(now, turn, burnt)
    return now


def behind(pile, turns):
    check_pile(pile)
    check_turns(pile, turns)
    return pile_after(pile, turns, burnt=False)


def burnt_behind(pile, turns):
    check_burnt_pile(pile)
    check_turns(pile, turns)
    return pile_after(pile, turns, burnt=True)
