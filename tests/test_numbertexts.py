"""Texts of NUMBERs: each has one, and no other text is read."""

import random
import re
import unittest

from classtab.errors import NoText
from classtab.numbertexts import read_number, shown_number
from tests.helper import coprime, naive_read, naive_shown, refused, some_number, told, untouched, wholly

GREAT = 10 ** 20 - 1
SIGNS = "0123456789z+-"


def some_numbers(n, chance):
    """Nought, 1 and -1 at each place, whole numbers, some numbers small and great."""
    found = [wholly(n, 0)]
    for k in range(len(coprime(n))):
        for x in (1, -1, 2, -2, 10, -11, GREAT, -GREAT):
            found.append(tuple(x if j == k else 0 for j in range(len(coprime(n)))))
    for x in (1, -1, 60, -60, GREAT):
        found.append((x,) * len(coprime(n)))
    for most in (1, 1, 2, 12, GREAT):
        found.extend(some_number(n, chance, most) for again in range(4))
    return found


def bent(text, chance):
    """A sign left out, put in, twice, exchanged; or two pieces of it the other way about."""
    k = chance.randrange(len(text))
    pieces = re.findall(r"[+-]?[^+-]+", text)
    chance.shuffle(pieces)
    return chance.choice([
        text[:k] + text[k + 1:], text[:k] + chance.choice(SIGNS) + text[k:], text[:k] + text[k] + text[k:],
        text[:k] + chance.choice(SIGNS) + text[k + 1:], "".join(pieces), text + chance.choice(SIGNS), text + text,
        text + "+" + text, chance.choice(SIGNS) + text, text + "+0", "0+" + text, text + "+0z", text + "+z1",
    ])


class Shown(unittest.TestCase):
    def test_each_n(self):
        chance = random.Random(170)
        for n in range(1, 61):
            for number in some_numbers(n, chance):
                text = untouched(self, shown_number, number)
                told(self, text, naive_shown(number))
                told(self, untouched(self, read_number, n, text), number)

    def test_known(self):
        known = [
            ((0,), "0"), ((3,), "3"), ((-3,), "-3"), ((1,), "1"), ((-1,), "-1"), ((0, -2), "-2z"), ((0, 1), "z"),
            ((0, -1), "-z"), ((0, 0, 0, 0, 1, 0), "z4"), ((0, 0, -1, 0), "-z2"), ((1, 1), "1+z"), ((-1, -1), "-1-z"),
            ((1, -1, 0, 2), "1-z+2z3"), ((0, 0, 10, -10), "10z2-10z3"), ((-7, 0, 0, 1), "-7+z3"), ((0, 0), "0"),
            ((0,) * 10 + (5, 0), "5z10"), ((0,) * 57 + (-1,), "-z57"), ((GREAT, -GREAT), f"{GREAT}-{GREAT}z"),
        ]
        for number, text in known:
            told(self, shown_number(number), text)

    def test_unlike_numbers_have_unlike_texts(self):
        chance = random.Random(171)
        for n in (1, 2, 3, 4, 5, 12, 30, 60):
            numbers = set(some_numbers(n, chance))
            self.assertEqual(len({shown_number(number) for number in numbers}), len(numbers))


class Read(unittest.TestCase):
    def no(self, n, text):
        refused(self, NoText, {}, read_number, n, text)

    def ask(self, n, text):
        want = naive_read(n, text)
        if want is None:
            self.no(n, text)
        else:
            told(self, untouched(self, read_number, n, text), want)
            self.assertEqual(naive_shown(want), text)
        return want is not None

    def test_bent_texts(self):
        chance = random.Random(172)
        met = []
        for n in range(1, 61):
            for number in some_numbers(n, chance)[::2]:
                text = naive_shown(number)
                for again in range(4):
                    text = bent(text, chance) or "0"
                    met.append(self.ask(n, text))
        self.assertGreater(met.count(True), 1000)
        self.assertGreater(met.count(False), 1000)

    def test_all_short_texts(self):
        for n in (1, 3, 4, 5, 7):
            texts = [""]
            for length in range(4):
                for text in texts:
                    self.ask(n, text)
                texts = [text + sign for text in texts for sign in ("012z+-" if length < 2 else "01z+-")]

    def test_refused(self):
        for n in (5, 7, 60):
            right = "-2+z-3z3"
            self.assertEqual(read_number(n, right)[:4], (-2, 1, 0, -3))
            for text in (
                    "", " ", "+", "-", "z+", "+z", "+1", "--1", "-+1", "+-1", "1+-z", "1--z", "1++z", "1+z+", "1z",
                    "-1z", "1+1z", "1-1z", "0z", "1+0z", "0+z", "z0", "z1", "2z0", "2z1", "z01", "z02", "z2+z", "z+1",
                    "1+2", "1-1", "z+z", "z-z", "z2+z2", "00", "01", "-0", "-01", "+0", "0-z", "1 + z", " 1", "1 ",
                    "1\n", "z 2", "- 1", "-2 +z", "Z", "x", "z^2", "z**2", "1.0", "1e3", "1_0", "z_2", "2*z",
                    "2z+-3z2", "1,2", "(1)", "zz", "z2z", "2z2z3", "z-", "z2-", "one", "None", "1/2", "z-2", "~", "!",
                    "0x1", "z+2z1", "3z2+2z2", "0" * 1000, "z" * 1000, "-" * 1000, "+" * 999 + "1", "z" + "9" * 999,
                    "z" + "0" * 998 + "2", "z60", "z58", "z99", "1+z1000", right + "+0", right + "+0z2", "+" + right,
                    right.replace("-3z3", "-3z3+z2")):
                self.no(n, text)

    def test_beyond_the_places(self):
        for n in range(1, 61):
            most = len(coprime(n))
            if most > 1:
                last = "z" if most == 2 else f"z{most - 1}"
                told(self, read_number(n, last), (0,) * (most - 1) + (1,))
                told(self, read_number(n, "5-7" + last), (5,) + (0,) * (most - 2) + (-7,))
            after = "z" if most == 1 else f"z{most}"
            self.no(n, after)
            self.no(n, "1+" + after)
            self.no(n, f"-2z{most + 1}")
            self.no(n, f"z{n}")

    def test_texts_are_those_of_n(self):
        told(self, read_number(5, "z3"), (0, 0, 0, 1))
        self.no(4, "z3")
        told(self, read_number(4, "z"), (0, 1))
        self.no(2, "z")
        self.no(1, "z")
        told(self, read_number(1, "-17"), (-17,))

    def test_many_figures(self):
        for figures in ("9" * 20, "9" * 40, "1" + "0" * 999, "7" * 900):
            told(self, read_number(1, figures), (int(figures),))
            told(self, read_number(3, "-" + figures[:-2] + "z"), (0, -int(figures[:-2])))
            self.no(3, "0" + figures[:-1])

    def test_nothing_hangs_on_what_was_asked_before(self):
        for again in range(3):
            told(self, read_number(4, "1+z"), (1, 1))
            self.no(4, "z+1")
            told(self, read_number(5, "1+z"), (1, 1, 0, 0))
            told(self, shown_number((1, 1)), "1+z")


if __name__ == "__main__":
    unittest.main()
