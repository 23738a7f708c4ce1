"""A stack: a plain pile to which turns are done and taken back."""

from flipstack.errors import NoBack
from flipstack.fewest import fewest
from flipstack.piles import check_pile, check_turns, turned


class Stack:
    def __init__(self, pile):
        check_pile(pile)
        self.cakes = list(pile)
        self.done = []

    def turn(self, turn):
        check_turns(self.cakes, [turn])
        self.cakes = turned(self.cakes, turn, burnt=False)
        self.done.append(turn)
        return len(self.done)

    def back(self):
        if not self.done:
            raise NoBack("no turn is left to take back")
        turn = self.done.pop()
        # A turn done again is undone.
        self.cakes = turned(self.cakes, turn, burnt=False)
        return turn

    def pile(self):
        return list(self.cakes)

    def turns(self):
        return list(self.done)

    def fewest(self):
        return fewest(self.cakes)
