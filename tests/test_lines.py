"""Points 1, 4 and 13: how piles are written and read."""

import re
import unittest
from itertools import product

from flipstack.errors import BadLine, NoPile
from flipstack.lines import burnt_read, read, shown
from tests.helper import (
    BURNT_TALL, FORTY_FIGURES, NO_BURNT_PILES, NO_PILES, TALL, burnt_piles, in_order, plain_piles,
)

SIGNS = "\t\n" + "".join(chr(code) for code in range(32, 127) if chr(code) != "%")

# What neither of the two takes.
BAD_TEXTS = [
    "", " ", "  ", "\n", "\t", "-", "--", "+", "0", "-0", "00", "--1", "---1", "- 1", "-1-", "1-", "-+1", "+-1",
    " 1", "1 ", " 1 ", "  1", "1  ", "1\n", "\n1", "1\t", "\t1", "1 \n", "\n 1",
    "1  2", "1   2", " 1 2", "1 2 ", "1\t2", "1\n2", "1 \t2", "1\t 2", "1 \n2", "12\n", "1 2\n", "1 2\t", "12 1",
    "01", "-01", "001", "1 02", "01 2", "1 -02", "1 002", "010 1", "+1", "1 +2", "+1 +2", "1 - 2", "1 2 -", "- 1 2",
    "1 2 - 3", "1 2 3-", "1 2-3", "1,2", "1, 2", "1;2", "[1, 2]", "[1]", "(1)", "1.", "1.0", ".1", "1e0", "0x1", "1_0",
    "1 2 3 4 5 6 7 8 9 1_0", "one", "a", "1 a", "l", "O", "I", "~", "!", "\\", "'1'", '"1"', "1/1", "1*1",
    "None", "True",
    "2", "-2", "12", "1 1", "1 3", "2 3", "1 2 2", "0 1", "1 0", "0 1 2", "1 -1", "1 2 -2", "21", "1 23", "123",
    "1 2 3 4 5 6 7 8 9 10 11 13", "1 2 3 4 5 6 7 8 9 10 11 11", "1 2 3 4 5 6 7 8 9 101112", "1 2 3 4 5 6 7 8 9 1 0",
    "1 2 3 4 5 6 7 8 9 10 11 12 13", "13 12 11 10 9 8 7 6 5 4 3 2 1", "13",
    "1 2 3 4 5 6 7 8 9 10 11 12 ", " 1 2 3 4 5 6 7 8 9 10 11 12", "1 2 3 4 5 6 7 8 9  10 11 12",
    "1 2 3 4 5 6 7 8 9 010 11 12", "1 2 3 4 5 6 7 8 9 10 11 +12", "1 2 3 4 5 6 7 8 9 10 11 -012",
    str(FORTY_FIGURES), str(-FORTY_FIGURES), "1 " + str(FORTY_FIGURES), "9" * 200, "0" * 199 + "1", " " * 200,
    "1" + " " * 199, " " * 199 + "1", "-" * 199 + "1", "1 " * 100, "~" * 200,
]

CAKES = re.compile(r"-?[1-9][0-9]*(?: -?[1-9][0-9]*)*")


def told_read(text):
    """The burnt pile that a text writes, or None."""
    if not CAKES.fullmatch(text):
        return None
    pile = [int(word) for word in text.split(" ")]
    is_pile = len(pile) <= 12 and sorted(abs(cake) for cake in pile) == in_order(len(pile))
    return pile if is_pile else None


def changed_texts(text):
    """The text with one sign left out, put in or changed, at each place."""
    for place in range(len(text) + 1):
        ahead, rest = text[:place], text[place:]
        yield ahead + rest[1:]
        for sign in SIGNS:
            yield ahead + sign + rest
            yield ahead + sign + rest[1:]


class Shown(unittest.TestCase):
    def test_texts_made_by_hand(self):
        for pile, text in (
            ([1], "1"),
            ([-1], "-1"),
            ([2, 1], "2 1"),
            ([-2, 1], "-2 1"),
            ([2, -1], "2 -1"),
            ([3, 1, 2], "3 1 2"),
            ([-3, -1, -2], "-3 -1 -2"),
            (TALL, "7 12 1 10 4 3 9 2 11 6 5 8"),
            (BURNT_TALL, "7 -12 1 -10 -4 3 9 2 -11 6 -5 8"),
        ):
            with self.subTest(pile=pile):
                self.assertEqual(shown(pile), text)
                self.assertIs(type(shown(pile)), str)

    def test_no_pile(self):
        for pile in NO_BURNT_PILES:
            with self.subTest(pile=pile):
                kept = list(pile)
                self.assertRaises(NoPile, shown, pile)
                self.assertEqual(pile, kept)

    def test_what_is_handed_in_is_not_changed(self):
        pile = [3, -1, 2]
        shown(pile)
        self.assertEqual(pile, [3, -1, 2])


class Read(unittest.TestCase):
    def test_written_and_read_again(self):
        for pile in plain_piles(5) + [TALL]:
            self.assertEqual(read(shown(pile)), pile)
            self.assertEqual(burnt_read(shown(pile)), pile)
        for pile in burnt_piles(4) + [BURNT_TALL]:
            self.assertEqual(burnt_read(shown(pile)), pile)

    def test_of_1_to_12_cakes(self):
        for size in range(1, 13):
            for pile in (in_order(size), in_order(size)[::-1]):
                self.assertEqual(read(shown(pile)), pile)
                for burnt in ([-cake for cake in pile], [cake * (-1) ** cake for cake in pile]):
                    self.assertEqual(burnt_read(shown(burnt)), burnt)

    def test_texts_made_by_hand(self):
        self.assertEqual(read("1"), [1])
        self.assertEqual(read("10 9 8 7 6 5 4 3 2 1"), [10, 9, 8, 7, 6, 5, 4, 3, 2, 1])
        self.assertEqual(burnt_read("-1"), [-1])
        self.assertEqual(burnt_read("-10 9 -8 7 -6 5 -4 3 -2 1"), [-10, 9, -8, 7, -6, 5, -4, 3, -2, 1])
        self.assertEqual(burnt_read("2 1"), [2, 1])

    def test_what_is_told_is_the_askers_own(self):
        for call in (read, burnt_read):
            first = call("2 1 3")
            self.assertIs(type(first), list)
            self.assertTrue(all(type(cake) is int for cake in first))
            first.reverse()
            first.append(99)
            self.assertEqual(call("2 1 3"), [2, 1, 3])
            self.assertIsNot(call("2 1 3"), call("2 1 3"))

    def test_called_by_the_names_of_its_arguments(self):
        self.assertEqual(shown(pile=[2, -1]), "2 -1")
        self.assertEqual(read(text="2 1"), [2, 1])
        self.assertEqual(burnt_read(text="2 -1"), [2, -1])


class Refused(unittest.TestCase):
    def check(self, text):
        """Both calls, held against a second telling of the writing."""
        pile = told_read(text)
        if pile is None:
            self.assertRaises(BadLine, burnt_read, text)
        else:
            self.assertEqual(burnt_read(text), pile, repr(text))
        if pile is None or min(pile) < 1:
            self.assertRaises(BadLine, read, text)
        else:
            self.assertEqual(read(text), pile, repr(text))

    def test_bad_texts(self):
        for text in BAD_TEXTS:
            for call in (read, burnt_read):
                with self.subTest(call=call.__name__, text=text):
                    self.assertRaises(BadLine, call, text)

    def test_cakes_that_are_no_pile(self):
        for pile in NO_PILES:
            text = " ".join(str(cake) for cake in pile)
            for call in (read, burnt_read):
                with self.subTest(call=call.__name__, text=text):
                    self.assertRaises(BadLine, call, text)

    def test_a_burnt_pile_is_no_plain_one(self):
        for pile in burnt_piles(4) + [BURNT_TALL]:
            if min(pile) < 0:
                self.assertRaises(BadLine, read, shown(pile))

    def test_each_single_sign(self):
        for sign in SIGNS:
            self.check(sign)
            for text in (sign + "1", "1" + sign, "1" + sign + "2", "-" + sign, sign + sign + "1"):
                self.check(text)

    def test_all_short_texts_of_few_signs(self):
        for length in range(6):
            for signs in product(" -+0123\n", repeat=length):
                self.check("".join(signs))

    def test_one_sign_off(self):
        for text in ("1", "-1", "2 1 3", "-2 1 -3", shown(TALL), shown(BURNT_TALL)):
            for changed in changed_texts(text):
                self.check(changed)


if __name__ == "__main__":
    unittest.main()
