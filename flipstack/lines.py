"""Writing: piles as texts, and texts as piles."""

from flipstack.errors import BadLine, NoPile
from flipstack.piles import MOST_CAKES, check_burnt_pile, check_pile


def shown(pile):
    # A plain pile is a burnt one too, with no burnt side up.
    check_burnt_pile(pile)
    return " ".join([str(cake) for cake in pile])


def cakes_by_word():
    # int would take more than the one right writing of a cake, say +1 or 01.
    words = {}
    for cake in range(1, MOST_CAKES + 1):
        words[str(cake)] = cake
        words[str(-cake)] = -cake
    return words


def read_cakes(text):
    known = cakes_by_word()
    cakes = []
    for word in text.split(" "):
        if word not in known:
            raise BadLine(f"{word!r} writes no cake")
        cakes.append(known[word])
    return cakes


def read(text):
    cakes = read_cakes(text)
    try:
        check_pile(cakes)
    except NoPile:
        raise BadLine(f"{text!r} writes no plain pile") from None
    return cakes


def burnt_read(text):
    cakes = read_cakes(text)
    try:
        check_burnt_pile(cakes)
    except NoPile:
        raise BadLine(f"{text!r} writes no burnt pile") from None
    return cakes
