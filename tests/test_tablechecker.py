"""The small checker of tables: whatever it lets by is, sorted, the table; else the first fault is told."""

import itertools
import random
import unittest

from classtab.errors import NoTable
from classtab.tablechecker import lets_table
from classtab.tables import table_of
from tests.helper import (
    cyclic, drawn_by, facts, looks_so, naive_fault, often, plain_things, refused, remains, some_spread, symmetric,
    table_groups, told, untouched, wholly,
)

GROUPS = table_groups()
TABLES = {name: table_of(group) for name, group in GROUPS.items()}
QUICK = (
    "one", "two", "three shuffled", "four", "twos", "six shuffled", "s3 shuffled", "d4", "q8 shuffled", "d5",
    "a4 shuffled", "dic3", "f20 shuffled", "f21", "s4", "s3s3", "a5", "sl23 shuffled", "sixteen",
)


def first_fault(group, thing):
    """As point 40 orders the faults, by hand; None where there is none."""
    n = facts(group).n
    if type(thing) is not tuple or len(thing) != len(facts(group).classes):
        return ("shape", 0)
    if not all(looks_so(group, n, row) for row in thing):
        return ("shape", 0)
    for k, row in enumerate(thing):
        word = naive_fault(group, row)
        if word is not None:
            return (word, k)
    for k, row in enumerate(thing):
        if any(row == thing[j] for j in range(k)):
            return ("twice", k)
    return None


def with_row(table, k, row):
    return table[:k] + (row,) + table[k + 1:]


def wrong_rows(group, row, chance):
    """Spreads of the group's round near a row, by which faults they have, first to last."""
    n = facts(group).n
    c = chance.randrange(len(row))
    found = [
        tuple(often(number, 2) for number in row),
        tuple(often(number, -1) for number in row),
        tuple(often(number, 0) for number in row),
        row[:c] + (tuple(x + 1 for x in row[c]),) + row[c + 1:],
        row[:1] + tuple(chance.sample(row[1:], len(row) - 1)),
        some_spread(group, n, chance, 2),
        (wholly(n, 1),) + (wholly(n, 0),) * (len(row) - 1),
    ]
    if n > 2:
        found.append(tuple(remains(n, (0,) + number) for number in row))
    return found


class LetsTable(unittest.TestCase):
    def no(self, group, thing, word, number):
        refused(self, NoTable, {"word": word, "number": number}, lets_table, group, thing)

    def ask(self, group, thing, table):
        """What is told is what the words of point 40 tell, walked by hand."""
        want = first_fault(group, thing)
        if want is None:
            self.assertIs(untouched(self, lets_table, group, thing), True)
            told(self, tuple(sorted(thing)), table)
            return None
        self.no(group, thing, *want)
        return want[0]

    def test_tables(self):
        for name, group in GROUPS.items():
            self.assertIs(untouched(self, lets_table, group, TABLES[name]), True, name)

    def test_in_any_order(self):
        chance = random.Random(80)
        for name, group in GROUPS.items():
            rows = list(TABLES[name])
            chance.shuffle(rows)
            self.assertIs(untouched(self, lets_table, group, tuple(rows)), True, name)
        for name in ("s3", "twos", "four shuffled", "a4", "f20"):
            for rows in itertools.permutations(TABLES[name]):
                self.assertIs(lets_table(GROUPS[name], rows), True)

    def test_no_shape(self):
        for name in QUICK + ("d29", "f55 shuffled"):
            group = GROUPS[name]
            table = TABLES[name]
            row = table[-1]
            things = [
                list(table), table[1:], table[:-1], table + (row,), table + (None,), (table,), row, (), str(table),
                {0: table}, tuple(list(one) for one in table), with_row(table, 0, list(table[0])),
                with_row(table, len(table) - 1, None), with_row(table, len(table) - 1, row[:-1]),
                with_row(table, len(table) - 1, row + row[-1:]),
                with_row(table, len(table) - 1, row[:-1] + (list(row[-1]),)),
                with_row(table, len(table) - 1, row[:-1] + (row[-1] + (0,),)),
                with_row(table, len(table) - 1, row[:-1] + (row[-1][:-1] + (True,),)),
                with_row(table, len(table) - 1, row[:-1] + (row[-1][:-1] + ("1",),)),
                with_row(table, len(table) - 1, row[:-1] + (1,)),
                with_row(table, len(table) - 1, ((True,) + row[0][1:],) + row[1:]),
            ]
            for thing in things:
                self.no(group, thing, "shape", 0)

    def test_shape_ahead_of_all(self):
        for name in QUICK:
            table = TABLES[name]
            doubled = tuple(often(number, 2) for number in table[0])
            self.no(GROUPS[name], (doubled,) + table[1:-1] + (table[-1][:-1],), "shape", 0)
            self.no(GROUPS[name], (table[0],) + table, "shape", 0)
            self.no(GROUPS[name], (doubled,) + table, "shape", 0)

    def test_truths_are_no_numbers(self):
        self.assertIs(lets_table(cyclic(1), (((1,),),)), True)
        self.no(cyclic(1), (((True,),),), "shape", 0)
        self.no(cyclic(2), (((1,), (True,)), ((1,), (-1,))), "shape", 0)

    def test_of_another_round(self):
        self.no(cyclic(1), (((1, 0),),), "shape", 0)
        self.no(cyclic(2), (((1, 0), (-1, 0)), ((1, 0), (1, 0))), "shape", 0)
        self.no(symmetric(3), (((1,), (-1,), (1,)), ((1,), (1,), (1,)), ((2,), (0,), (-1,))), "shape", 0)

    def test_any_plain_thing(self):
        for thing in plain_things():
            for name in ("one", "two", "three", "s3", "a5"):
                self.no(GROUPS[name], thing, "shape", 0)

    def test_one_wrong_row(self):
        chance = random.Random(81)
        words = []
        for name in QUICK:
            for k, row in enumerate(TABLES[name]):
                for wrong in wrong_rows(GROUPS[name], row, chance):
                    words.append(self.ask(GROUPS[name], with_row(TABLES[name], k, wrong), TABLES[name]))
        for word in ("first", "products", "meeting"):
            self.assertIn(word, words)

    def test_several_wrong_rows(self):
        chance = random.Random(82)
        words = []
        for name in QUICK:
            table = TABLES[name]
            for case in range(12):
                thing = tuple(chance.sample(table, len(table)))
                for k in chance.sample(range(len(table)), min(len(table), 1 + case % 3)):
                    near = wrong_rows(GROUPS[name], thing[k], chance) + list(table)
                    thing = with_row(thing, k, chance.choice(near))
                words.append(self.ask(GROUPS[name], thing, table))
        for word in ("first", "products", "meeting", "twice", None):
            self.assertIn(word, words)

    def test_twice(self):
        chance = random.Random(83)
        for name in QUICK:
            rows = chance.sample(TABLES[name], len(TABLES[name]))
            for k in range(1, len(rows)):
                for j in range(k):
                    self.no(GROUPS[name], with_row(tuple(rows), k, rows[j]), "twice", k)

    def test_twice_behind_all_rows(self):
        for name in ("s3", "q8", "a5 shuffled"):
            one, other = TABLES[name][0], TABLES[name][1]
            doubled = tuple(often(number, 2) for number in TABLES[name][-1])
            self.no(GROUPS[name], (one, one) + TABLES[name][2:-1] + (doubled,), "meeting", len(TABLES[name]) - 1)
            thrice = (one, other, one, other) + (one,) * len(TABLES[name])
            self.no(GROUPS[name], thrice[:len(TABLES[name])], "twice", 2)

    def test_row_by_row(self):
        ones = ((1, 0), (1, 0), (1, 0))
        below = ((-1, 0), (-1, 0), (-1, 0))
        rootlike = ((0, 1), (0, 1), (0, 1))
        bent = ((1, 0), (0, 0), (0, 0))
        twice = ((2, 0), (2, 0), (2, 0))
        group = symmetric(3)
        for wrong, word in ((below, "first"), (rootlike, "first"), (bent, "products"), (twice, "meeting")):
            for later in (below, rootlike, bent, twice, ones):
                self.no(group, (wrong, later, ones), word, 0)
                self.no(group, (ones, wrong, later), word, 1)
            self.no(group, (ones, ones, wrong), word, 2)
        self.no(group, (ones, ones, ones), "twice", 1)

    def test_meeting_too_small(self):
        for name in ("d4", "q8 shuffled"):
            table = TABLES[name]
            half = tuple(tuple(x // 2 for x in number) for number in table[4])
            self.no(GROUPS[name], with_row(table, 4, half), "meeting", 4)

    def test_tables_of_other_groups(self):
        for one, other in (("d4", "q8"), ("q8", "d4"), ("twos", "four"), ("dic3", "d6"), ("d6", "dic3")):
            self.ask(GROUPS[one], TABLES[other], TABLES[one])
        for name in ("six", "s3", "d4", "a4", "f21", "s4", "a5", "sl23"):
            self.ask(GROUPS[name], TABLES[name + " shuffled"], TABLES[name])

    def test_no_table_is_sought(self):
        drawn = drawn_by("tablechecker")
        self.assertIn("'classtab.tablechecker'", drawn)
        self.assertNotIn("'classtab.tables'", drawn)

    def test_nothing_hangs_on_what_was_asked_before(self):
        for case in range(3):
            self.assertIs(lets_table(GROUPS["s3"], TABLES["s3"]), True)
            self.no(GROUPS["s3"], TABLES["s3"][:2] + TABLES["s3"][:1], "twice", 2)
            self.no(GROUPS["s3"], TABLES["d4"], "shape", 0)


if __name__ == "__main__":
    unittest.main()
