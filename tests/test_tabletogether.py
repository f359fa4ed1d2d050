"""Tables put together of two, and spreads raised from the group over a kept part."""

import random
import unittest

from classtab.errors import NoPart, TooMany
from classtab.making import together
from classtab.spreads import is_spread
from classtab.tablechecker import lets_table
from classtab.tables import table_of
from classtab.tabletogether import raised, table_together
from tests.helper import (
    cyclic, facts, few_classes, kept_by_hand, multiplied, ones, over_by_hand, pairs_of, part_by_hand, refused, remains,
    sides_by_hand, some_rounds, some_spread, stretched, symmetric, table_groups, told, twisted, untouched, with_orders,
)

GROUPS = table_groups()
SMALL = with_orders(few_classes())
PAIRS = [
    ("one", "one"), ("one", "s3"), ("a5 shuffled", "one"), ("two", "two"), ("two", "three shuffled"), ("three", "two"),
    ("four shuffled", "two"), ("two", "four"), ("s3 shuffled", "two"), ("two", "s3"), ("s3", "s3 shuffled"),
    ("four", "three shuffled"), ("d4 shuffled", "two"), ("q8", "two"), ("q8 shuffled", "three"), ("three", "d4"),
    ("three", "d5 shuffled"), ("d5", "s3 shuffled"), ("s3", "d5"), ("a4 shuffled", "two"), ("a4", "four shuffled"),
    ("three", "a4 shuffled"), ("f20 shuffled", "three"), ("three", "f20"), ("s4 shuffled", "two"), ("two", "s4"),
    ("f21 shuffled", "two"), ("twos", "s3"), ("eight", "two"), ("four", "four shuffled"), ("dic3 shuffled", "two"),
    ("twos shuffled", "twos"), ("six", "two"), ("sl23", "two"),
]
GREAT = 10 ** 20 - 1


def by_hand(one, other, first, second):
    """Point 57, thing by thing: each thing of a class tells the same number."""
    both = pairs_of(one, other)
    n, count = facts(both).n, len(other)
    rows = []
    for row in first:
        for col in second:
            numbers = []
            for members in facts(both).classes:
                found = set()
                for c, d in {(facts(one).numbers[x // count], facts(other).numbers[x % count]) for x in members}:
                    ours = stretched(facts(one).n, row[c], n)
                    found.add(remains(n, multiplied(ours, stretched(facts(other).n, col[d], n))))
                if len(found) != 1:
                    raise ArithmeticError("one number for a class")
                numbers.append(found.pop())
            rows.append(tuple(numbers))
    return tuple(sorted(rows))


def raised_by_hand(group, part, spread):
    """Point 58, thing by thing."""
    found = sides_by_hand(group, part)
    upper = facts(over_by_hand(group, part))
    numbers = []
    for members in facts(group).classes:
        lies = {upper.numbers[k] for a in members for k, side in enumerate(found) if a in side}
        if len(lies) != 1:
            raise ArithmeticError("one class of sides for a class")
        numbers.append(spread[lies.pop()])
    return tuple(numbers)


def kernel_of(group, row):
    return {a for a, c in enumerate(facts(group).numbers) if row[c] == row[0]}


class TableTogether(unittest.TestCase):
    def test_by_hand(self):
        for one, other in PAIRS:
            first, second = GROUPS[one], GROUPS[other]
            tables = (table_of(first), table_of(second))
            got = untouched(self, table_together, first, second, *tables)
            told(self, got, by_hand(first, second, *tables))

    def test_the_table_of_both_together(self):
        for one, other in PAIRS:
            first, second = GROUPS[one], GROUPS[other]
            got = table_together(first, second, table_of(first), table_of(second))
            told(self, got, table_of(together(first, second)))
            self.assertEqual(list(got), sorted(set(got)))
            self.assertIs(lets_table(pairs_of(first, second), got), True)

    def test_rounds_of_all_sorts(self):
        # Alike, dividing one another either way, without a common divisor, and none of these.
        met = set()
        for one, other in PAIRS:
            m, n = facts(GROUPS[one]).n, facts(GROUPS[other]).n
            both = facts(pairs_of(GROUPS[one], GROUPS[other])).n
            met.add((m == n, both == m, both == n, both == m * n))
        for sort in ((True, True, True, False), (False, True, False, False), (False, False, True, False),
                     (False, False, False, True), (False, False, False, False)):
            self.assertIn(sort, met)

    def test_known(self):
        two = (((1,), (-1,)), ((1,), (1,)))
        told(self, table_together(cyclic(1), cyclic(2), (((1,),),), two), two)
        told(self, table_together(cyclic(2), cyclic(1), two, (((1,),),)), two)
        told(self, table_together(cyclic(2), cyclic(2), two, two), (
            ((1,), (-1,), (-1,), (1,)), ((1,), (-1,), (1,), (-1,)),
            ((1,), (1,), (-1,), (-1,)), ((1,), (1,), (1,), (1,))))
        three = (((1, 0), (-1, -1), (0, 1)), ((1, 0), (0, 1), (-1, -1)), ((1, 0), (1, 0), (1, 0)))
        got = table_together(cyclic(2), cyclic(3), two, three)
        # The root of 3 is the power 2 of that of 6, and that is the root less 1.
        self.assertIn(((1, 0), (-1, 1), (0, -1), (1, 0), (-1, 1), (0, -1)), got)
        self.assertIn(((1, 0), (-1, 1), (0, -1), (-1, 0), (1, -1), (0, 1)), got)
        self.assertEqual(len(got), 6)

    def test_three_put_together(self):
        two, three, s3 = cyclic(2), cyclic(3), symmetric(3)
        one = table_together(two, three, table_of(two), table_of(three))
        upper = table_together(two, s3, table_of(two), table_of(s3))
        told(self, table_together(pairs_of(two, three), two, one, table_of(two)), table_of(pairs_of(
            pairs_of(two, three), two)))
        lower = table_together(s3, two, table_of(s3), table_of(two))
        told(self, table_together(pairs_of(two, s3), two, upper, table_of(two)),
             table_together(two, pairs_of(s3, two), table_of(two), lower))

    def test_too_many(self):
        for one, other in (
                ("a5", "two"), ("two", "a5"), ("q8", "q8"), ("s3", "d6"), ("f21", "three"), ("four", "sixteen")):
            first, second = GROUPS[one], GROUPS[other]
            refused(self, TooMany, {}, table_together, first, second, table_of(first), table_of(second))


class Raised(unittest.TestCase):
    def test_by_hand(self):
        chance = random.Random(130)
        seen = set()
        for name, group in SMALL.items():
            for part in kept_by_hand(group):
                upper = over_by_hand(group, part)
                for n in some_rounds(group):
                    spread = some_spread(upper, n, chance, GREAT)
                    got = untouched(self, raised, group, part, spread)
                    told(self, got, raised_by_hand(group, part, spread))
                    self.assertIs(is_spread(group, n, got), True)
                    seen.add(n > facts(group).n)
        self.assertEqual(seen, {False, True})

    def test_over_0_and_over_all(self):
        chance = random.Random(131)
        for name, group in GROUPS.items():
            n = facts(group).n
            spread = some_spread(group, n, chance)
            told(self, raised(group, (0,), spread), spread)
            number = spread[-1]
            told(self, raised(group, tuple(range(len(group))), (number,)), (number,) * len(spread))

    def test_just_the_rows_whose_kernel_has_the_part(self):
        cases = 0
        for name, group in SMALL.items():
            table = table_of(group)
            n = facts(group).n
            for part in kept_by_hand(group):
                upper = over_by_hand(group, part)
                m = facts(upper).n
                wide = [tuple(stretched(m, number, n) for number in row) for row in table_of(upper)]
                got = sorted(raised(group, part, row) for row in wide)
                self.assertEqual(got, [row for row in table if set(part) <= kernel_of(group, row)], name)
                cases += m < n and 1 < len(part) < len(group)
        self.assertGreater(cases, 20)

    def test_known(self):
        told(self, raised(symmetric(3), (0, 3, 4), ((1, 0), (-1, 0))), ((1, 0), (-1, 0), (1, 0)))
        told(self, raised(cyclic(4), (0, 2), ((7, 0), (0, 5))), ((7, 0), (0, 5), (7, 0), (0, 5)))
        told(self, raised(twisted(4, 2, 3, 2), (0, 4), ((1, 0), (2, 0), (3, 0), (4, 0))),
             ((1, 0), (2, 0), (3, 0), (4, 0), (1, 0)))

    def test_no_part(self):
        cases = 0
        for name, group in SMALL.items():
            for a in range(len(group)):
                part = part_by_hand(group, [a], False)
                if part != part_by_hand(group, [a], True):
                    cases += 1
                    refused(self, NoPart, {}, raised, group, part, ones(group, facts(group).n))
        self.assertGreater(cases, 50)


if __name__ == "__main__":
    unittest.main()
