"""The table of a group: all its pure spreads, sorted."""

import unittest

from classtab.pure import is_pure
from classtab.tables import table_of
from tests.helper import (
    added, alternating, cyclic, facts, few_classes, in_order, looks_so, moved, multiplied, naive_meeting,
    naive_pure, remains, some_order, symmetric, table_groups, told, twisted, untouched, wholly,
)

GROUPS = table_groups()
TABLES = {name: table_of(group) for name, group in GROUPS.items()}


def firsts(table):
    return sorted(row[0][0] for row in table)


class Table(unittest.TestCase):
    def test_as_many_spreads_as_classes(self):
        for name, group in GROUPS.items():
            table = untouched(self, table_of, group)
            self.assertIs(type(table), tuple)
            self.assertEqual(len(table), len(facts(group).classes), name)
            for row in table:
                self.assertTrue(looks_so(group, facts(group).n, row), name)

    def test_sorted_and_no_two_alike(self):
        for name, table in TABLES.items():
            self.assertEqual(list(table), sorted(set(table)), name)

    def test_each_is_pure_by_hand(self):
        for name, group in GROUPS.items():
            for row in TABLES[name]:
                self.assertTrue(naive_pure(group, row), name)

    def test_unlike_rows_are_upright(self):
        for name in few_classes():
            group = GROUPS[name]
            n = facts(group).n
            for i, one in enumerate(TABLES[name]):
                for j, other in enumerate(TABLES[name]):
                    want = wholly(n, len(group) if i == j else 0)
                    self.assertEqual(naive_meeting(group, n, one, other), want, name)

    def test_unlike_columns_are_upright(self):
        for name in few_classes():
            group = GROUPS[name]
            n = facts(group).n
            for i, size in enumerate(facts(group).sizes):
                for j in range(len(facts(group).sizes)):
                    products = [remains(n, multiplied(row[i], moved(n, row[j], -1))) for row in TABLES[name]]
                    want = wholly(n, len(group) // size if i == j else 0)
                    self.assertEqual(added(n, products), want, name)

    def test_first_numbers(self):
        for name, group in GROUPS.items():
            self.assertEqual(sum(d * d for d in firsts(TABLES[name])), len(group), name)
            for row in TABLES[name]:
                told(self, row[0], wholly(facts(group).n, row[0][0]))
                self.assertGreaterEqual(row[0][0], 1)
                self.assertEqual(len(group) % row[0][0], 0, name)

    def test_the_spread_of_ones_is_a_row(self):
        for name, group in GROUPS.items():
            self.assertIn((wholly(facts(group).n, 1),) * len(facts(group).classes), TABLES[name])

    def test_known_first_numbers(self):
        known = {
            "one": [1], "s3": [1, 1, 2], "d4": [1, 1, 1, 1, 2], "q8": [1, 1, 1, 1, 2], "a4": [1, 1, 1, 3],
            "s4": [1, 1, 2, 3, 3], "a5": [1, 3, 3, 4, 5], "f20": [1, 1, 1, 1, 4], "f21": [1, 1, 1, 3, 3],
            "sl23": [1, 1, 1, 2, 2, 2, 3], "gl23": [1, 1, 2, 2, 2, 3, 3, 4], "f56": [1] * 7 + [7],
            "f42": [1] * 6 + [6], "m27": [1] * 9 + [3, 3], "d29": [1, 1] + [2] * 14,
        }
        for name, want in known.items():
            self.assertEqual(firsts(TABLES[name]), want, name)
            self.assertEqual(firsts(TABLES[name + " shuffled"]), want, name)

    def test_known_tables(self):
        told(self, table_of(cyclic(1)), (((1,),),))
        told(self, table_of(cyclic(2)), (((1,), (-1,)), ((1,), (1,))))
        told(self, table_of(cyclic(3)), (
            ((1, 0), (-1, -1), (0, 1)), ((1, 0), (0, 1), (-1, -1)), ((1, 0), (1, 0), (1, 0))))
        told(self, table_of(symmetric(3)), (
            ((1, 0), (-1, 0), (1, 0)), ((1, 0), (1, 0), (1, 0)), ((2, 0), (0, 0), (-1, 0))))
        told(self, table_of(cyclic(4)), (
            ((1, 0), (-1, 0), (1, 0), (-1, 0)), ((1, 0), (0, -1), (-1, 0), (0, 1)),
            ((1, 0), (0, 1), (-1, 0), (0, -1)), ((1, 0), (1, 0), (1, 0), (1, 0))))
        told(self, table_of(twisted(4, 2, 3)), (
            ((1, 0), (-1, 0), (-1, 0), (1, 0), (1, 0)), ((1, 0), (-1, 0), (1, 0), (-1, 0), (1, 0)),
            ((1, 0), (1, 0), (-1, 0), (-1, 0), (1, 0)), ((1, 0), (1, 0), (1, 0), (1, 0), (1, 0)),
            ((2, 0), (0, 0), (0, 0), (0, 0), (-2, 0))))

    def test_one_round(self):
        # Row j of a group of one round has at thing k the power j * k of the root.
        for n in range(1, 17):
            want = sorted(tuple(remains(n, [0] * (j * k % n) + [1]) for k in range(n)) for j in range(n))
            told(self, table_of(cyclic(n)), tuple(want))

    def test_five_places(self):
        table = table_of(alternating(5))
        sizes = facts(alternating(5)).sizes
        fives = [c for c, size in enumerate(sizes) if size == 12]
        # Of the two rows that begin with 3, each has both numbers x for which x * x = x + 1 at the fives.
        for row in table:
            if row[0][0] == 3:
                one, other = [row[c] for c in fives]
                self.assertEqual(tuple(x + y for x, y in zip(one, other)), wholly(30, 1))
                self.assertEqual(remains(30, multiplied(one, other)), wholly(30, -1))

    def test_things_in_another_order(self):
        for name in few_classes():
            group = GROUPS[name]
            for seed in range(3):
                order = some_order(len(group), seed + 100)
                other = in_order(group, order)
                columns = [facts(group).numbers[order[members[0]]] for members in facts(other).classes]
                want = tuple(sorted(tuple(row[c] for c in columns) for row in TABLES[name]))
                told(self, table_of(other), want)

    def test_the_same_whatever_was_asked_before(self):
        names = list(GROUPS)
        for name in names[::-1] + names[::3]:
            told(self, table_of(GROUPS[name]), TABLES[name])
            is_pure(GROUPS[name], TABLES["s3"][0])


if __name__ == "__main__":
    unittest.main()
