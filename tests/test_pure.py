"""Pure spreads: each row of a table is one, and nothing else."""

import random
import unittest

from classtab.pure import is_pure
from classtab.tables import table_of
from tests.helper import (
    cyclic, facts, moved, multiplied, naive_pure, often, plain_things, remains, some_spread, stretched, symmetric,
    table_groups, untouched, wholly,
)

GROUPS = table_groups()
TABLES = {name: table_of(group) for name, group in GROUPS.items()}
QUICK = (
    "one", "two", "three shuffled", "four", "twos", "six shuffled", "eight", "s3 shuffled", "d4", "q8 shuffled", "d5",
    "a4 shuffled", "dic3", "f20 shuffled", "f21", "s4", "s3s3", "a5", "sl23 shuffled", "q8two",
)


def with_number(spread, c, number):
    return spread[:c] + (number,) + spread[c + 1:]


def exchanged(spread, c, d):
    return with_number(with_number(spread, c, spread[d]), d, spread[c])


class IsPure(unittest.TestCase):
    def ask(self, group, thing, why):
        """What is told is what the words of point 3 tell, walked by hand."""
        want = naive_pure(group, thing)
        self.assertIs(untouched(self, is_pure, group, thing), want, (why, thing))
        return want

    def no(self, group, thing, why):
        self.assertIs(self.ask(group, thing, why), False, (why, thing))

    def test_rows(self):
        for name, group in GROUPS.items():
            for row in TABLES[name]:
                self.assertIs(untouched(self, is_pure, group, row), True, name)

    def test_known(self):
        self.assertIs(is_pure(cyclic(1), ((1,),)), True)
        self.assertIs(is_pure(cyclic(1), ((2,),)), False)
        self.assertIs(is_pure(cyclic(1), ((0,),)), False)
        self.assertIs(is_pure(cyclic(1), ((-1,),)), False)
        self.assertIs(is_pure(cyclic(2), ((1,), (-1,))), True)
        self.assertIs(is_pure(cyclic(2), ((-1,), (1,))), False)
        self.assertIs(is_pure(cyclic(2), ((1,), (0,))), False)
        self.assertIs(is_pure(cyclic(4), ((1, 0), (0, 1), (-1, 0), (0, -1))), True)
        self.assertIs(is_pure(cyclic(4), ((1, 0), (-1, 0), (0, 1), (0, -1))), False)
        self.assertIs(is_pure(symmetric(3), ((2, 0), (0, 0), (-1, 0))), True)
        self.assertIs(is_pure(symmetric(3), ((2, 0), (0, 0), (1, 0))), False)
        self.assertIs(is_pure(symmetric(3), ((3, 0), (1, 0), (0, 0))), False)

    def test_taken_often(self):
        for name in QUICK:
            for row in TABLES[name]:
                for k in (2, 3, 0, -1, -2, 10 ** 19):
                    self.no(GROUPS[name], tuple(often(number, k) for number in row), name)

    def test_divided(self):
        # With all numbers divided by the first one the products go on holding, but the meeting is too small.
        cases = 0
        for name in QUICK + ("m27", "q8two shuffled"):
            for row in TABLES[name]:
                d = row[0][0]
                if d > 1 and all(x % d == 0 for number in row for x in number):
                    cases += 1
                    self.no(GROUPS[name], tuple(tuple(x // d for x in number) for number in row), name)
        self.assertGreater(cases, 5)

    def test_times_the_root(self):
        for name in QUICK:
            n = facts(GROUPS[name]).n
            for row in TABLES[name]:
                for k in (1, 2):
                    if n > 2 * k:
                        thing = tuple(remains(n, [0] * k + list(number)) for number in row)
                        self.no(GROUPS[name], thing, name)

    def test_one_number_unlike(self):
        chance = random.Random(71)
        for name in QUICK:
            for row in TABLES[name]:
                for c, number in enumerate(row):
                    k = chance.randrange(len(number))
                    for step in (1, -1):
                        thing = number[:k] + (number[k] + step,) + number[k + 1:]
                        self.no(GROUPS[name], with_number(row, c, thing), name)

    def test_one_number_more_or_fewer(self):
        for name, group in GROUPS.items():
            for row in TABLES[name][-2:]:
                for thing in (row + row[-1:], row[:1] + row, row[:-1], row[1:], row + (wholly(facts(group).n, 0),)):
                    self.no(group, thing, name)
                self.no(group, tuple(number + (0,) for number in row), name)

    def test_two_exchanged(self):
        verdicts = []
        for name in QUICK:
            for row in TABLES[name][:4]:
                for c in range(len(row)):
                    for d in range(c):
                        if row[c] != row[d]:
                            verdicts.append(self.ask(GROUPS[name], exchanged(row, c, d), name))
        self.assertIn(True, verdicts)
        self.assertIn(False, verdicts)

    def test_two_added_or_multiplied(self):
        verdicts = []
        for name in QUICK:
            group = GROUPS[name]
            n = facts(group).n
            for one in TABLES[name][:4]:
                for other in TABLES[name][-4:]:
                    summed = tuple(tuple(x + y for x, y in zip(a, b)) for a, b in zip(one, other))
                    self.no(group, summed, name)
                    less = tuple(tuple(x - y for x, y in zip(a, b)) for a, b in zip(one, other))
                    self.no(group, less, name)
                    product = tuple(remains(n, multiplied(a, b)) for a, b in zip(one, other))
                    verdicts.append(self.ask(group, product, name))
        self.assertIn(True, verdicts)
        self.assertIn(False, verdicts)

    def test_right_but_for_the_products(self):
        # With 1 or -1 at each thing of a group of one-thing classes the meeting is the count in any case.
        for name, pure in (("four", 2), ("six shuffled", 2), ("eight", 2), ("twos", 4), ("three", 1)):
            group = GROUPS[name]
            verdicts = []
            for k in range(0, 2 ** len(group), 2):
                thing = tuple(wholly(facts(group).n, -1 if k >> c & 1 else 1) for c in range(len(group)))
                verdicts.append(self.ask(group, thing, name))
            self.assertEqual(verdicts.count(True), pure)

    def test_flipped_and_turned_rows_are_rows(self):
        for name in QUICK:
            n = facts(GROUPS[name]).n
            for row in TABLES[name]:
                self.assertIs(is_pure(GROUPS[name], tuple(moved(n, number, -1) for number in row)), True, name)

    def test_of_another_round(self):
        for name in QUICK:
            n = facts(GROUPS[name]).n
            for row in TABLES[name]:
                for m in range(2 * n, 61, n):
                    self.ask(GROUPS[name], tuple(stretched(n, number, m) for number in row), (name, m))
        self.assertIs(is_pure(cyclic(2), ((1, 0), (-1, 0))), False)
        self.assertIs(is_pure(cyclic(1), ((1, 0),)), False)
        self.assertIs(is_pure(cyclic(3), ((1,), (1,), (1,))), False)
        self.assertIs(is_pure(symmetric(3), ((1,), (1,), (1,))), False)

    def test_of_another_group(self):
        for name in QUICK:
            for other in ("q8", "d4", "s3", "dic3", "d6", "s4"):
                for row in TABLES[name][:2]:
                    self.ask(GROUPS[other], row, (name, other))

    def test_any_spread(self):
        chance = random.Random(72)
        for name in QUICK:
            for most in (1, 10 ** 20 - 1):
                self.ask(GROUPS[name], some_spread(GROUPS[name], facts(GROUPS[name]).n, chance, most), name)

    def test_lists_truths_and_others(self):
        for name, group in GROUPS.items():
            for row in TABLES[name][-2:]:
                last = row[-1]
                things = [
                    list(row), (row,), [row], tuple(list(number) for number in row), row[:-1] + (list(last),),
                    row[:-1] + (None,), row[:-1] + ("1",), row[:-1] + (1,), row[:-1] + (last[:-1] + (True,),),
                    row[:-1] + (last[:-1] + (False,),), row[:-1] + (last[:-1] + (None,),),
                    ((True,) + row[0][1:],) + row[1:], (1,) + row[1:], (True,) + row[1:], str(row), {0: row},
                    tuple(tuple(bool(x) if x in (0, 1) else x for x in number) for number in row),
                ]
                for thing in things:
                    self.assertIs(untouched(self, is_pure, group, thing), False, (name, thing))

    def test_any_plain_thing(self):
        for thing in plain_things():
            for name in ("one", "two", "three", "s3", "a5"):
                self.assertIs(untouched(self, is_pure, GROUPS[name], thing), False, thing)


if __name__ == "__main__":
    unittest.main()
