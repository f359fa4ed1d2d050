"""Shares: how often each row of the table is in a spread, sums put together by shares, and share papers."""

import random
import unittest

from classtab.shares import put_by, share_paper, shares_of
from classtab.tables import table_of
from tests.helper import (
    cyclic, facts, few_classes, multiplied, naive_meeting, naive_pieces, naive_traces, ones, remains,
    some_deeds, some_spread, symmetric, told, untouched, wholly, with_orders,
)

GROUPS = with_orders(few_classes())
TABLES = {name: table_of(group) for name, group in GROUPS.items()}
QUICK = [name for name in GROUPS if len(TABLES[name]) <= 9 and facts(GROUPS[name]).n <= 42]


def naive_shares(group, table, spread):
    """Row by row the meeting over the count, where all are whole numbers."""
    found = []
    for row in table:
        met = naive_meeting(group, facts(group).n, spread, row)
        if any(met[1:]) or met[0] % len(group):
            return None
        found.append(met[0] // len(group))
    return tuple(found)


def summed(table, shares):
    """The sum of the rows, one behind the other."""
    found = [(0,) * len(number) for number in table[0]]
    for row, k in zip(table, shares):
        found = [tuple(x + y * k for x, y in zip(one, other)) for one, other in zip(found, row)]
    return tuple(found)


def naive_paper(table, shares):
    if shares is None or min(shares) < 0:
        return None
    return tuple((row, k) for row, k in zip(table, shares) if k)


class Shares(unittest.TestCase):
    def ask(self, name, spread):
        group, table = GROUPS[name], TABLES[name]
        want = naive_shares(group, table, spread)
        told(self, untouched(self, shares_of, group, table, spread), want)
        told(self, untouched(self, share_paper, group, table, spread), naive_paper(table, want))
        return want

    def test_put_by(self):
        chance = random.Random(100)
        for name, table in TABLES.items():
            for most in (2, 10 ** 19):
                shares = tuple(chance.choice((0, chance.randint(-most, most))) for row in table)
                told(self, untouched(self, put_by, table, shares), summed(table, shares))

    def test_put_by_gives_the_shares_again(self):
        chance = random.Random(101)
        for name, group in GROUPS.items():
            for most in (1, 3, 10 ** 15):
                shares = tuple(chance.randint(-most, most) for row in TABLES[name])
                told(self, shares_of(group, TABLES[name], put_by(TABLES[name], shares)), shares)

    def test_shares_of_nought(self):
        for name, group in GROUPS.items():
            none = (0,) * len(TABLES[name])
            spread = tuple(wholly(facts(group).n, 0) for members in facts(group).classes)
            told(self, shares_of(group, TABLES[name], spread), none)
            told(self, put_by(TABLES[name], none), spread)
            told(self, share_paper(group, TABLES[name], spread), ())

    def test_shares_of_a_row(self):
        for name in QUICK:
            for k, row in enumerate(TABLES[name]):
                want = tuple(1 if j == k else 0 for j in range(len(TABLES[name])))
                self.assertEqual(self.ask(name, row), want)

    def test_any_sums_of_rows(self):
        chance = random.Random(102)
        for name in QUICK:
            for least in (-3, 0, 0, 1):
                shares = tuple(chance.randint(least, 4) for row in TABLES[name])
                self.assertEqual(self.ask(name, summed(TABLES[name], shares)), shares)

    def test_no_shares(self):
        chance = random.Random(103)
        seen = []
        for name in QUICK:
            group = GROUPS[name]
            for most in (1, 10 ** 20 - 1):
                seen.append(self.ask(name, some_spread(group, facts(group).n, chance, most)))
        self.assertIn(None, seen)

    def test_shares_that_are_no_whole_numbers(self):
        for name in QUICK:
            n = facts(GROUPS[name]).n
            for row in TABLES[name]:
                if n > 2:
                    # Each share is the root here, and nought: exact numbers, but not whole ones.
                    self.assertIsNone(self.ask(name, tuple(remains(n, (0,) + number) for number in row)))
                if len(row) > 1:
                    # Shares of 1 over the count, and the like, are no whole numbers either.
                    self.assertIsNone(self.ask(name, (wholly(n, 1),) + (wholly(n, 0),) * (len(row) - 1)))

    def test_halves(self):
        # Half the sum of two rows, where its numbers are whole: only the shares of these two are no whole numbers.
        cases = 0
        for name in QUICK:
            table = TABLES[name]
            for i in range(len(table)):
                for j in range(i):
                    both = summed((table[i], table[j]), (1, 1))
                    if all(x % 2 == 0 for number in both for x in number):
                        cases += 1
                        self.assertIsNone(self.ask(name, tuple(tuple(x // 2 for x in number) for number in both)))
        self.assertGreater(cases, 20)

    def test_traces_have_shares(self):
        for name in QUICK:
            group, table = GROUPS[name], TABLES[name]
            for deed in some_deeds(group):
                spread = naive_traces(group, deed)
                shares = self.ask(name, spread)
                self.assertGreaterEqual(min(shares), 0)
                told(self, put_by(table, shares), spread)
                place = table.index(ones(group, facts(group).n))
                self.assertEqual(shares[place], len(naive_pieces(deed)))

    def test_products_have_shares(self):
        for name in QUICK:
            n = facts(GROUPS[name]).n
            for one in TABLES[name][-3:]:
                for other in TABLES[name]:
                    product = tuple(remains(n, multiplied(x, y)) for x, y in zip(one, other))
                    shares = self.ask(name, product)
                    self.assertGreaterEqual(min(shares), 0)
                    told(self, put_by(TABLES[name], shares), product)

    def test_greater_groups(self):
        for name in ("f55", "f57 shuffled", "sixteen", "a5 shuffled", "twelve"):
            group, table = GROUPS[name], TABLES[name]
            shares = tuple(k % 3 for k in range(len(table)))
            self.assertEqual(self.ask(name, summed(table, shares)), shares)

    def test_known(self):
        group = symmetric(3)
        table = TABLES["s3"]
        told(self, shares_of(group, table, ((3, 0), (1, 0), (0, 0))), (0, 1, 1))
        told(self, shares_of(group, table, ((6, 0), (0, 0), (0, 0))), (1, 1, 2))
        told(self, shares_of(group, table, ((4, 0), (0, 0), (1, 0))), (1, 1, 1))
        told(self, shares_of(group, table, ((0, 0), (2, 0), (0, 0))), (-1, 1, 0))
        told(self, shares_of(group, table, ((1, 0), (0, 0), (0, 0))), None)
        told(self, shares_of(group, table, ((0, 1), (0, 1), (0, 1))), None)
        told(self, put_by(table, (-1, 1, 0)), ((0, 0), (2, 0), (0, 0)))
        told(self, share_paper(group, table, ((3, 0), (1, 0), (0, 0))), (
            (((1, 0), (1, 0), (1, 0)), 1), (((2, 0), (0, 0), (-1, 0)), 1)))
        told(self, share_paper(group, table, ((0, 0), (2, 0), (0, 0))), None)
        told(self, share_paper(group, table, ((1, 0), (0, 0), (0, 0))), None)
        told(self, shares_of(cyclic(1), (((1,),),), ((-7,),)), (-7,))
        told(self, put_by((((1,),),), (-7,)), ((-7,),))
        told(self, share_paper(cyclic(1), (((1,),),), ((7,),)), ((((1,),), 7),))


if __name__ == "__main__":
    unittest.main()
