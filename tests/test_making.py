"""Groups made by perms, put together, renamed."""

import random
import unittest

from classtab.errors import NoOrder, NoPerm, TooMany
from classtab.groups import ask_group
from classtab.making import made_by, renamed, together
from tests.helper import all_perms, by_perms, cyclic, in_order, pairs_of, plain_things, sample_groups, told, untouched

GROUPS = sample_groups()


def rounds(*lengths):
    """The perm that brings places round in rounds of these lengths."""
    perm = []
    for length in lengths:
        start = len(perm)
        perm.extend(start + (k + 1) % length for k in range(length))
    return tuple(perm)


FIVE = [rounds(5), (1, 2, 0, 3, 4)]
MAKERS = [
    [(0,)],
    [(0,), (0,)],
    [(1, 0)],
    [(0, 1, 2)],
    [(1, 0, 2), (0, 2, 1)],
    [(1, 2, 0), (1, 2, 0), (1, 0, 2), (1, 2, 0)],
    [(1, 0, 3, 2), (2, 3, 0, 1)],
    [(1, 2, 3, 0), (0, 3, 2, 1)],
    [(1, 2, 0, 3), (0, 2, 3, 1)],
    [(1, 0, 2, 3), (1, 2, 3, 0)],
    [(3, 2, 1, 0), (0, 1, 2, 3)],
    [rounds(7), (0, 2, 4, 6, 1, 3, 5)],
    [(1, 0, 2, 3, 4, 5), (0, 1, 3, 2, 4, 5), (0, 1, 2, 3, 5, 4)],
    [rounds(24)],
    [rounds(24), tuple(reversed(range(24)))],
    [rounds(3, 4, 5)],
    FIVE,
    FIVE[::-1] + FIVE,
]


class MadeBy(unittest.TestCase):
    def refused(self, perms, number):
        with self.assertRaises(NoPerm) as caught:
            untouched(self, made_by, perms)
        told(self, caught.exception.number, number)

    def test_group_and_perms(self):
        for makers in MAKERS:
            got = untouched(self, made_by, makers)
            told(self, got, (by_perms(makers), all_perms(makers)))
            self.assertIs(ask_group(got[0]), True)

    def test_counts(self):
        self.assertEqual([len(made_by(makers)[0]) for makers in MAKERS],
                         [1, 1, 2, 1, 6, 6, 4, 8, 12, 24, 2, 21, 8, 24, 48, 60, 60, 60])

    def test_an_example(self):
        group = ((0, 1, 2, 3, 4, 5), (1, 0, 4, 5, 2, 3), (2, 3, 0, 1, 5, 4), (3, 2, 5, 4, 0, 1), (4, 5, 1, 0, 3, 2),
                 (5, 4, 3, 2, 1, 0))
        perms = [(0, 1, 2), (0, 2, 1), (1, 0, 2), (1, 2, 0), (2, 0, 1), (2, 1, 0)]
        told(self, made_by([(2, 1, 0), (1, 2, 0)]), (group, perms))

    def test_made_by_its_own_perms(self):
        for makers in MAKERS:
            group, perms = made_by(makers)
            told(self, made_by(perms), (group, perms))

    def test_the_list_is_the_askers_own(self):
        makers = [(1, 0, 2), (0, 2, 1)]
        first = made_by(makers)
        before = (first[0], list(first[1]))
        later = made_by(makers)
        self.assertIsNot(first[1], later[1])
        later[1].clear()
        told(self, first, before)
        first[1].reverse()
        first[1][0] = None
        makers.append("none")
        told(self, made_by(makers[:2]), before)

    def test_no_perm(self):
        for thing in plain_things() + [tuple(range(25)), (), (0, 0), (1, 2), (2, 1), [1, 0], (True, 0)]:
            self.refused([thing], 0)
            self.refused([thing, (0, 1)], 0)
            self.refused([thing, thing], 0)
            self.refused([(0, 1), thing], 1)
            self.refused([(1, 0), (1, 0), (0, 1), thing, thing, None], 3)

    def test_other_numbers_of_places(self):
        self.refused([(0, 1), (0,)], 1)
        self.refused([(0,), (0, 1)], 1)
        self.refused([(0, 1), (1, 0), (0, 1, 2), None], 2)
        self.refused([(0, 1), None, (0, 1, 2)], 1)
        self.refused([(0, 1, 2), (0, 1), (0, 1), (0, 1)], 1)

    def test_too_many(self):
        for makers in ([rounds(7, 9)], [rounds(3, 5, 7)], [rounds(16, 5)], [rounds(2, 3, 11)],
                       [(1, 0, 2, 3, 4), rounds(5)], [rounds(24), (1, 0) + tuple(range(2, 24))],
                       [tuple(range(2 * k)) + (2 * k + 1, 2 * k) + tuple(range(2 * k + 2, 12)) for k in range(6)],
                       [rounds(9, *[1] * 7), rounds(*[1] * 9, 7)]):
            with self.assertRaises(TooMany):
                untouched(self, made_by, makers)

    def test_no_perm_goes_ahead_of_too_many(self):
        makers = [(1, 0, 2, 3, 4), rounds(5)]
        self.refused(makers + [None], 2)
        self.refused(makers + [rounds(5), (0,)], 3)


class Together(unittest.TestCase):
    def test_pairs(self):
        for one in ("one", "two", "three", "s3", "q8 shuffled", "s4", "a5"):
            for other in ("one", "two", "s3 shuffled", "d5", "six", "a5 shuffled"):
                first = GROUPS[one]
                second = GROUPS[other]
                if len(first) * len(second) <= 60:
                    got = untouched(self, together, first, second)
                    told(self, got, pairs_of(first, second))
                    self.assertIs(ask_group(got), True)
                else:
                    with self.assertRaises(TooMany):
                        untouched(self, together, first, second)

    def test_sixty_and_above(self):
        self.assertEqual(len(together(cyclic(6), cyclic(10))), 60)
        self.assertEqual(len(together(cyclic(60), cyclic(1))), 60)
        self.assertEqual(len(together(cyclic(1), cyclic(60))), 60)
        for one, other in ((2, 31), (31, 2), (3, 21), (8, 8), (7, 9), (60, 2), (60, 60)):
            with self.assertRaises(TooMany):
                together(cyclic(one), cyclic(other))

    def test_three_put_together(self):
        got = together(together(cyclic(2), cyclic(3)), cyclic(5))
        told(self, got, together(cyclic(2), together(cyclic(3), cyclic(5))))

    def test_which_one_goes_first(self):
        told(self, together(cyclic(2), cyclic(3))[1], (1, 2, 0, 4, 5, 3))
        told(self, together(cyclic(2), cyclic(3))[3], (3, 4, 5, 0, 1, 2))


class Renamed(unittest.TestCase):
    def refused(self, group, order):
        with self.assertRaises(NoOrder):
            untouched(self, renamed, group, order)

    def test_orders(self):
        chance = random.Random(42)
        for name, group in GROUPS.items():
            rest = list(range(1, len(group)))
            chance.shuffle(rest)
            order = tuple([0] + rest)
            got = untouched(self, renamed, group, order)
            told(self, got, in_order(group, list(order)))
            told(self, renamed(group, tuple(range(len(group)))), group)

    def test_an_example(self):
        told(self, renamed(cyclic(4), (0, 2, 3, 1)), ((0, 1, 2, 3), (1, 0, 3, 2), (2, 3, 1, 0), (3, 2, 0, 1)))

    def test_no_orders(self):
        for group in (cyclic(1), cyclic(2), cyclic(3), GROUPS["s3"], GROUPS["a5 shuffled"]):
            n = len(group)
            order = tuple(range(n))
            self.refused(group, list(order))
            self.refused(group, order[:-1])
            self.refused(group, order + (n,))
            self.refused(group, order + (0,))
            self.refused(group, order + order)
            for wrong in (-1, n, 10 ** 39, None, "0", "1", [0], (0,), {}, n - 1 if n > 1 else -1):
                self.refused(group, (wrong,) + order[1:])
                if n > 1:
                    self.refused(group, order[:-2] + (order[-2], wrong if wrong != n - 1 else 0))
            if n > 1:
                self.refused(group, order[1:] + (0,))
                self.refused(group, (0, True) + order[2:])
                self.refused(group, (1, 0) + order[2:])
                self.refused(group, (0,) * n)
            self.refused(group, (False,) + order[1:])

    def test_any_plain_thing(self):
        for thing in plain_things():
            for group in (cyclic(1), cyclic(2), cyclic(3), GROUPS["s4"]):
                self.refused(group, thing)


if __name__ == "__main__":
    unittest.main()
