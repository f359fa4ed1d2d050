"""Groups: what is one, and the first fault of what is none; backs, powers, rounds."""

import math
import random
import unittest

from classtab.errors import NoGroup
from classtab.groups import ask_group, back, full_round, power, round_of
from tests.helper import cyclic, in_order, naive_power, pairs_of, plain_things, sample_groups, shuffled, told, \
    twisted, untouched

GROUPS = sample_groups()


def fault(table):
    """The first fault of a table of the right shape, as the words of the promise tell it, or None."""
    things = range(len(table))
    for a in things:
        if table[0][a] != a or table[a][0] != a:
            return ("one", a)
    for a in things:
        if not any(table[a][b] == 0 and table[b][a] == 0 for b in things):
            return ("back", a)
    for a in things:
        for b in things:
            for c in things:
                if table[table[a][b]][c] != table[a][table[b][c]]:
                    return ("three", a)
    return None


def with_one(table, a, b, value):
    rows = [list(row) for row in table]
    rows[a][b] = value
    return tuple(tuple(row) for row in rows)


# A table with 0 as it must be and with backs, in which threes don't go.
LOOP = (
    (0, 1, 2, 3, 4),
    (1, 0, 3, 4, 2),
    (2, 4, 0, 1, 3),
    (3, 2, 4, 0, 1),
    (4, 3, 1, 2, 0),
)


class AskGroup(unittest.TestCase):
    def refused(self, thing, word, number):
        with self.assertRaises(NoGroup) as caught:
            untouched(self, ask_group, thing)
        told(self, (caught.exception.word, caught.exception.thing), (word, number))

    def ask(self, table):
        want = fault(table)
        if want is None:
            self.assertIs(ask_group(table), True)
        else:
            self.refused(table, *want)
        return want

    def test_groups(self):
        for name, group in GROUPS.items():
            self.assertIs(untouched(self, ask_group, group), True, name)

    def test_groups_of_each_count(self):
        for n in range(1, 61):
            self.assertIs(ask_group(cyclic(n)), True)
            self.assertIs(ask_group(shuffled(cyclic(n), n)), True)
            if n % 2 == 0:
                self.assertIs(ask_group(twisted(n // 2, 2, -1 % (n // 2))), True)

    def test_no_shape(self):
        for thing in plain_things():
            self.refused(thing, "shape", 0)

    def test_counts_beyond(self):
        for thing in ((), cyclic(61), cyclic(62), cyclic(64), pairs_of(cyclic(8), cyclic(8))):
            self.refused(thing, "shape", 0)

    def test_wrong_rows(self):
        for group in (cyclic(1), cyclic(2), cyclic(3), GROUPS["s3"], GROUPS["a5"]):
            n = len(group)
            self.refused(list(group), "shape", 0)
            self.refused(group + (group[0],), "shape", 0)
            if n > 1:
                self.refused(group[:-1], "shape", 0)
            for k in (0, n - 1):
                for row in (list(group[k]), group[k][:-1], group[k] + (0,), (), None, 0, "", {}, True, [group[k]]):
                    self.refused(group[:k] + (row,) + group[k + 1:], "shape", 0)

    def test_wrong_things_within(self):
        for group in (cyclic(1), cyclic(2), GROUPS["s3"], GROUPS["a5"]):
            n = len(group)
            for a, b in ((0, 0), (0, n - 1), (n - 1, 0), (n - 1, n - 1)):
                for wrong in (-1, n, n + 1, 10 ** 39, -10 ** 39, None, "0", (0,), [0], {}):
                    self.refused(with_one(group, a, b, wrong), "shape", 0)

    def test_truths_are_no_things(self):
        for n in (1, 2, 3, 60):
            group = cyclic(n)
            for a in range(n):
                self.refused(with_one(group, a, -a % n, False), "shape", 0)
                if n > 1:
                    self.refused(with_one(group, a, (1 - a) % n, True), "shape", 0)

    def test_one_on_either_hand(self):
        for group in (cyclic(4), GROUPS["s3"], GROUPS["a5"]):
            n = len(group)
            for a in range(1, n):
                self.refused(with_one(group, 0, a, 0), "one", a)
                self.refused(with_one(group, a, 0, 0), "one", a)
            self.refused(with_one(group, 0, 0, 1), "one", 0)

    def test_another_one_than_nought(self):
        self.refused(((1, 0), (0, 1)), "one", 0)
        self.refused(in_order(cyclic(3), [1, 0, 2]), "one", 0)

    def test_back(self):
        self.refused(((0, 1), (1, 1)), "back", 1)
        self.refused(((0, 1, 2), (1, 0, 2), (2, 2, 2)), "back", 2)
        # Each of 1, 2, 3 has one that gives 0 on the one hand, and one on the other hand, but none on both.
        self.refused(((0, 1, 2, 3), (1, 3, 0, 2), (2, 3, 1, 0), (3, 0, 1, 2)), "back", 1)

    def test_back_goes_ahead_of_three(self):
        table = with_one(with_one(cyclic(7), 4, 3, 1), 1, 1, 5)
        self.refused(table, "back", 3)

    def test_threes(self):
        self.assertEqual(fault(LOOP), ("three", 1))
        self.ask(LOOP)
        for n in (2, 3, 4, 12):
            self.assertEqual(self.ask(pairs_of(LOOP, cyclic(n))), ("three", n))
            self.assertEqual(self.ask(pairs_of(cyclic(n), LOOP)), ("three", 1))
        for seed in range(10):
            self.ask(shuffled(pairs_of(LOOP, cyclic(3)), seed))

    def test_one_place_changed(self):
        chance = random.Random(30)
        seen = {}
        for name in ("two", "three", "twos", "s3", "d4", "q8", "a4", "f21", "s4 shuffled"):
            group = GROUPS[name]
            for case in range(40):
                a, b, value = [chance.randrange(len(group)) for k in range(3)]
                want = self.ask(with_one(group, a, b, value))
                seen[want and want[0]] = True
        self.assertEqual(set(seen), {None, "one", "back", "three"})

    def test_any_table_of_few_things(self):
        chance = random.Random(31)
        for case in range(600):
            n = chance.randint(1, 4)
            table = tuple(tuple(chance.randrange(n) for b in range(n)) for a in range(n))
            self.ask(table)
            table = (tuple(range(n)),) + tuple((a,) + table[a][1:] for a in range(1, n))
            self.ask(table)

    def test_the_last_of_sixty(self):
        group = cyclic(60)
        table = with_one(with_one(group, 59, 58, 56), 59, 59, 57)
        self.assertEqual(self.ask(table)[0], "three")


class Things(unittest.TestCase):
    def test_back(self):
        for name, group in GROUPS.items():
            for a in range(len(group)):
                b = untouched(self, back, group, a)
                self.assertIs(type(b), int)
                self.assertEqual((group[a][b], group[b][a]), (0, 0), name)

    def test_powers_near_nought(self):
        for name in ("one", "two", "s3", "q8", "f21 shuffled", "s4", "twelve shuffled"):
            group = GROUPS[name]
            for a in range(len(group)):
                up = 0
                down = 0
                behind = group[a].index(0)
                for k in range(30):
                    told(self, power(group, a, k), up)
                    told(self, power(group, a, -k), down)
                    up = group[up][a]
                    down = group[down][behind]

    def test_powers_far_away(self):
        for name, group in GROUPS.items():
            for a in {0, 1 % len(group), len(group) // 2, len(group) - 1}:
                for k in (59, -61, 10 ** 20, -10 ** 20 + 7, 10 ** 60 + 1, -10 ** 60 + 11):
                    told(self, power(group, a, k), naive_power(group, a, k))

    def test_rounds(self):
        for name, group in GROUPS.items():
            found = []
            for a in range(len(group)):
                k, x = 1, a
                while x != 0:
                    k, x = k + 1, group[x][a]
                told(self, untouched(self, round_of, group, a), k)
                found.append(k)
            told(self, untouched(self, full_round, group), math.lcm(*found))

    def test_known_rounds(self):
        known = {"one": 1, "s3": 6, "q8": 4, "a4": 6, "s4": 12, "a5": 30, "f20": 20, "sixty": 60, "threes": 3}
        for name, want in known.items():
            told(self, full_round(GROUPS[name]), want)
        told(self, [round_of(cyclic(12), a) for a in range(12)], [1, 12, 6, 4, 3, 12, 2, 12, 3, 4, 6, 12])
        told(self, power(cyclic(12), 5, -1), 7)


if __name__ == "__main__":
    unittest.main()
