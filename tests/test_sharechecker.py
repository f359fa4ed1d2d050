"""The small checker of shares: what it lets by has just the shares of a spread; else the first fault is told."""

import random
import unittest

from classtab.errors import NoShares
from classtab.sharechecker import lets_shares
from classtab.shares import share_paper, shares_of
from classtab.tables import table_of
from tests.helper import (
    cyclic, drawn_by, facts, few_classes, looks_so, multiplied, naive_fault, naive_traces, often, ones, plain_things,
    refused, remains, some_deeds, some_spread, symmetric, told, untouched, wholly, with_orders,
)

GROUPS = with_orders(few_classes())
TABLES = {name: table_of(group) for name, group in GROUPS.items()}
QUICK = [name for name in GROUPS if len(TABLES[name]) <= 9 and facts(GROUPS[name]).n <= 42]


def sum_of(group, paper):
    """The spread that a paper writes."""
    found = [wholly(facts(group).n, 0) for members in facts(group).classes]
    for spread, k in paper:
        found = [tuple(x + y * k for x, y in zip(one, other)) for one, other in zip(found, spread)]
    return tuple(found)


def has_shape(group, thing):
    if type(thing) is not tuple:
        return False
    for entry in thing:
        if type(entry) is not tuple or len(entry) != 2 or not looks_so(group, facts(group).n, entry[0]):
            return False
        if type(entry[1]) is not int or entry[1] < 1:
            return False
    return [entry[0] for entry in thing] == sorted({entry[0] for entry in thing})


def first_fault(group, spread, thing):
    """As point 48 orders the faults, by hand; None where there is none."""
    if not has_shape(group, thing):
        return ("shape", 0)
    for k, entry in enumerate(thing):
        if naive_fault(group, entry[0]) is not None:
            return ("pure", k)
    for c, number in enumerate(sum_of(group, thing)):
        if number != spread[c]:
            return ("sum", c)
    return None


def some_paper(name, chance):
    found = tuple((row, chance.choice((1, 2, 10 ** 15))) for row in TABLES[name] if chance.randrange(3))
    return found or ((TABLES[name][0], 3),)


def with_entry(paper, k, entry):
    return paper[:k] + (entry,) + paper[k + 1:]


class LetsShares(unittest.TestCase):
    def no(self, group, spread, thing, word, number):
        refused(self, NoShares, {"word": word, "number": number}, lets_shares, group, spread, thing)

    def ask(self, group, spread, thing):
        want = first_fault(group, spread, thing)
        if want is None:
            self.assertIs(untouched(self, lets_shares, group, spread, thing), True)
            return None
        self.no(group, spread, thing, *want)
        return want[0]

    def test_papers(self):
        chance = random.Random(110)
        for name, group in GROUPS.items():
            for case in range(2):
                paper = some_paper(name, chance)
                spread = sum_of(group, paper)
                self.assertIs(untouched(self, lets_shares, group, spread, paper), True)
                told(self, share_paper(group, TABLES[name], spread), paper)

    def test_what_is_let_by_are_the_shares(self):
        chance = random.Random(111)
        for name in QUICK:
            group, table = GROUPS[name], TABLES[name]
            for deed in some_deeds(group):
                spread = naive_traces(group, deed)
                paper = share_paper(group, table, spread)
                self.assertIs(lets_shares(group, spread, paper), True)
                shares = shares_of(group, table, spread)
                told(self, tuple((row, k) for row, k in zip(table, shares) if k > 0), paper)
                other = some_paper(name, chance)
                if other != paper:
                    self.assertEqual(self.ask(group, spread, other), "sum")

    def test_products(self):
        for name in QUICK:
            n = facts(GROUPS[name]).n
            for row in TABLES[name][-3:]:
                product = tuple(remains(n, multiplied(number, number)) for number in row)
                paper = share_paper(GROUPS[name], TABLES[name], product)
                self.assertIs(lets_shares(GROUPS[name], product, paper), True)

    def test_the_paper_of_nought(self):
        for name, group in GROUPS.items():
            nought = sum_of(group, ())
            self.assertIs(lets_shares(group, nought, ()), True)
            self.no(group, nought, [], "shape", 0)
            self.no(group, nought, {}, "shape", 0)
            self.no(group, ones(group, facts(group).n), (), "sum", 0)

    def test_bent(self):
        chance = random.Random(112)
        for name in QUICK:
            group = GROUPS[name]
            paper = some_paper(name, chance)
            spread = sum_of(group, paper)
            row, k = paper[-1]
            last = len(paper) - 1
            things = [
                list(paper), (paper,), [paper], str(paper), None, True, 1, {0: paper}, row, (row,), (row, k),
                paper + (None,), paper + ((),), paper + (row,), paper + (k,), dict(enumerate(paper)),
            ]
            entries = [
                [row, k], (row,), (k, row), (row, k, k), (row, k, None), (), row, k, None, "1", {row: k},
                (list(row), k), (row[:-1], k), (row + row[-1:], k), (None, k), (k, k), ("row", k), ((), k),
                ((row,), k), (row, None),
                (row, "1"), (row, (k,)), (row, [k]), (row, True), (row, False), (row, 0), (row, -1), (row, -k),
                (row[:-1] + (list(row[-1]),), k), (row[:-1] + (row[-1] + (0,),), k), (row[:-1] + (1,), k),
                (row[:-1] + (row[-1][:-1] + (True,),), k), (row[:-1] + (row[-1][:-1] + (None,),), k),
                (((True,) + row[0][1:],) + row[1:], k), (True, k), (row, {}), (row, -10 ** 19),
            ]
            things.extend(with_entry(paper, last, entry) for entry in entries)
            things.extend(with_entry(paper, 0, entry) for entry in entries)
            for thing in things:
                self.no(group, spread, thing, "shape", 0)

    def test_one_that_has_one_thing(self):
        group = cyclic(1)
        self.assertIs(lets_shares(group, ((1,),), ((((1,),), 1),)), True)
        self.no(group, ((1,),), ((((1,),), True),), "shape", 0)
        self.no(group, ((1,),), ((((True,),), 1),), "shape", 0)
        self.no(group, ((0,),), ((((1,),), 0),), "shape", 0)
        self.no(group, ((2,),), ((((1,),), 1), (((1,),), 1)), "shape", 0)
        self.no(group, ((2,),), ((((2,),), 1),), "pure", 0)
        self.no(group, ((2,),), ((((1,),), 1),), "sum", 0)
        self.assertIs(lets_shares(group, ((10 ** 19,),), ((((1,),), 10 ** 19),)), True)

    def test_spreads_rising(self):
        chance = random.Random(113)
        for name in QUICK:
            group = GROUPS[name]
            paper = tuple((row, 1 + chance.randrange(3)) for row in TABLES[name])
            spread = sum_of(group, paper)
            self.no(group, spread, paper[:1] + paper, "shape", 0)
            self.no(group, spread, paper + paper[-1:], "shape", 0)
            self.no(group, spread, paper + ((paper[-1][0], 7),), "shape", 0)
            for k in range(1, len(paper)):
                swapped = paper[:k - 1] + (paper[k], paper[k - 1]) + paper[k + 1:]
                self.no(group, spread, swapped, "shape", 0)
            if len(paper) > 1:
                self.no(group, spread, paper[::-1], "shape", 0)
                self.no(group, spread, paper[1:] + paper[:1], "shape", 0)

    def test_shape_ahead_of_pure(self):
        for name in QUICK:
            group = GROUPS[name]
            row = TABLES[name][-1]
            doubled = tuple(often(number, 2) for number in row)
            self.no(group, row, ((doubled, 1), (row, 0)), "shape", 0)
            self.no(group, row, ((doubled, 1), (row, 1)), "shape", 0)

    def test_no_pure_spread(self):
        chance = random.Random(114)
        words = []
        for name in QUICK:
            group = GROUPS[name]
            n = facts(group).n
            for case in range(6):
                paper = some_paper(name, chance)
                extras = [
                    tuple(often(number, 2) for number in chance.choice(TABLES[name])),
                    tuple(often(number, -1) for number in chance.choice(TABLES[name])),
                    some_spread(group, n, chance, 2), sum_of(group, ()), sum_of(group, paper),
                ]
                extras = chance.sample(extras, 1 + case % 3)
                rows = dict(paper)
                rows.update((extra, 1) for extra in extras)
                thing = tuple(sorted(rows.items()))
                words.append(self.ask(group, sum_of(group, thing), thing))
                words.append(self.ask(group, sum_of(group, paper), thing))
        self.assertIn("pure", words)

    def test_the_first_that_is_not_pure(self):
        group = symmetric(3)
        low = ((0, 0), (0, 0), (0, 0))
        one, other, third = TABLES["s3"]
        high = ((3, 0), (1, 0), (0, 0))
        spread = sum_of(group, ((one, 1), (high, 1)))
        self.no(group, spread, ((one, 1), (high, 1)), "pure", 1)
        self.no(group, spread, ((low, 1), (high, 1)), "pure", 0)
        self.no(group, spread, ((one, 1), (other, 1), (third, 1), (high, 1)), "pure", 3)
        self.no(group, spread, ((low, 1), (one, 1), (high, 1)), "pure", 0)
        self.no(group, high, ((high, 1),), "pure", 0)
        self.assertIs(lets_shares(group, high, ((other, 1), (third, 1))), True)

    def test_another_sum(self):
        chance = random.Random(115)
        places = []
        for name in QUICK:
            group = GROUPS[name]
            for case in range(4):
                paper = some_paper(name, chance)
                spread = sum_of(group, paper)
                k = chance.randrange(len(paper))
                for step in (1, 5):
                    thing = with_entry(paper, k, (paper[k][0], paper[k][1] + step))
                    self.assertEqual(self.ask(group, spread, thing), "sum")
                self.assertEqual(self.ask(group, spread, paper[:k] + paper[k + 1:]), "sum")
                for c in range(len(spread)):
                    number = spread[c][:-1] + (spread[c][-1] + 1,)
                    self.no(group, spread[:c] + (number,) + spread[c + 1:], paper, "sum", c)
                    places.append(c)
        self.assertGreater(max(places), 5)

    def test_the_first_class_with_another_sum(self):
        group = symmetric(3)
        one, other, third = TABLES["s3"]
        self.no(group, other, ((one, 1),), "sum", 1)
        self.no(group, third, ((one, 1), (other, 1)), "sum", 2)
        self.no(group, ((5, 0), (5, 0), (1, 0)), ((one, 1),), "sum", 0)
        self.no(group, ((1, 0), (5, 0), (5, 0)), ((one, 1),), "sum", 1)

    def test_a_share_more_or_fewer_in_a_deed(self):
        for name in QUICK:
            group, table = GROUPS[name], TABLES[name]
            spread = naive_traces(group, some_deeds(group)[-1])
            shares = shares_of(group, table, spread)
            for k in range(len(table)):
                for step in (1, -1):
                    other = shares[:k] + (shares[k] + step,) + shares[k + 1:]
                    paper = tuple((row, share) for row, share in zip(table, other) if share)
                    self.assertIn(self.ask(group, spread, paper), ("sum", "shape"))

    def test_no_table_is_looked_at(self):
        drawn = drawn_by("sharechecker")
        self.assertIn("'classtab.sharechecker'", drawn)
        self.assertNotIn("'classtab.tables'", drawn)

    def test_any_plain_thing(self):
        for thing in plain_things():
            for name in ("one", "two", "s3", "a5"):
                spread = ones(GROUPS[name], facts(GROUPS[name]).n)
                self.ask(GROUPS[name], spread, thing)


if __name__ == "__main__":
    unittest.main()
