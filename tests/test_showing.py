"""What a table shows: kernels, kept parts, centre and down, sorts, roots of the things, counts."""

import functools
import itertools
import random
import unittest

from classtab.classes import counts_of
from classtab.parts import is_kept, is_part
from classtab.showing import centre, counts_by, down, kernel, kept_parts, roots_of, sort_of
from classtab.tables import table_of
from tests.helper import (
    added, alternating, cyclic, facts, few_classes, kept_by_hand, moved, multiplied, often, over_by_hand, pairs_of,
    part_by_hand, remains, shuffled, symmetric, table_groups, ten_columns, told, twisted, untouched, wholly,
    with_orders,
)

GROUPS = table_groups()
GROUPS.update(with_orders(ten_columns()))
TABLES = {name: table_of(group) for name, group in GROUPS.items()}
SQUARE, QUATERNIONS = twisted(4, 2, 3), twisted(4, 2, 3, 2)


def all_unions(group):
    """All unions of classes, 0 among them, with each two of which their times is in it, too."""
    classes = facts(group).classes
    found = []
    for size in range(len(classes)):
        for some in itertools.combinations(classes[1:], size):
            things = {0}.union(*some)
            if all(group[a][b] in things for a in things for b in things):
                found.append(tuple(sorted(things)))
    return sorted(found)


@functools.lru_cache(maxsize=None)
def kept(group):
    return kept_by_hand(group)


def kernel_by_hand(group, row):
    return tuple(a for a in range(len(group)) if row[facts(group).numbers[a]] == row[0])


def naive_sort(group, row):
    """Thing by thing: the numbers at the squares."""
    known = facts(group)
    total = added(known.n, [row[known.numbers[group[a][a]]] for a in range(len(group))])
    return total[0] // len(group), total[0] % len(group), total[1:]


def same_either_way(group):
    return all(group[a][b] == group[b][a] for a in range(len(group)) for b in range(len(group)))


def counted_by_hand(n, sizes, rows):
    """Point 63's sum, with the first numbers, which divide the count, brought ahead."""
    count = sum(sizes)
    found = []
    for i, one in enumerate(sizes):
        found.append([])
        for j, other in enumerate(sizes):
            products = [often(remains(n, multiplied(row[i], row[j])), count // row[0][0]) for row in rows]
            found[i].append([])
            for k in range(len(sizes)):
                total = added(n, [
                    remains(n, multiplied(product, moved(n, row[k], -1))) for product, row in zip(products, rows)])
                whole, rest = divmod(total[0] * one * other, count * count)
                if rest or any(total[1:]):
                    raise ArithmeticError("a whole number")
                found[i][j].append(whole)
    return tuple(tuple(tuple(ends) for ends in seconds) for seconds in found)


class Kernels(unittest.TestCase):
    def test_each_row(self):
        for name, group in GROUPS.items():
            table = TABLES[name]
            for k, row in enumerate(table):
                got = untouched(self, kernel, group, table, k)
                told(self, got, kernel_by_hand(group, row))
                self.assertIs(is_part(group, got), True)
                self.assertIs(is_kept(group, got), True)

    def test_known(self):
        group, table = symmetric(3), TABLES["s3"]
        told(self, [kernel(group, table, k) for k in range(3)], [(0, 3, 4), (0, 1, 2, 3, 4, 5), (0,)])
        told(self, kernel(cyclic(1), (((1,),),), 0), (0,))
        told(self, [kernel(cyclic(2), TABLES["two"], k) for k in range(2)], [(0,), (0, 1)])


class KeptParts(unittest.TestCase):
    def test_against_all_unions(self):
        cases = 0
        for name, group in GROUPS.items():
            if len(facts(group).classes) <= 9:
                want = all_unions(group)
                told(self, untouched(self, kept_parts, group, TABLES[name]), want)
                self.assertEqual(kept(group), want)
                cases += 1
        self.assertGreater(cases, 50)

    def test_against_parts_that_grow(self):
        for name, group in GROUPS.items():
            got = untouched(self, kept_parts, group, TABLES[name])
            self.assertIs(type(got), list)
            told(self, got, kept(group))
            self.assertEqual(got, sorted(set(got)))
            self.assertIn(tuple(range(len(group))), got)
            self.assertIn((0,), got)

    def test_each_is_kept(self):
        for name, group in GROUPS.items():
            for part in kept_parts(group, TABLES[name]):
                self.assertIs(is_part(group, part), True)
                self.assertIs(is_kept(group, part), True)

    def test_known(self):
        counts = {
            "one": 1, "two": 2, "four": 3, "twos": 5, "s3": 3, "d4": 6, "q8": 6, "a4": 3, "s4": 4, "a5": 2,
            "twotwotwotwo": 67, "fifteen": 4, "sixteen": 5, "sl23": 4, "f56": 3,
        }
        for name, want in counts.items():
            self.assertEqual(len(kept_parts(GROUPS[name], TABLES[name])), want, name)
        told(self, kept_parts(symmetric(3), TABLES["s3"]), [(0,), (0, 1, 2, 3, 4, 5), (0, 3, 4)])
        told(self, kept_parts(cyclic(1), TABLES["one"]), [(0,)])

    def test_the_list_is_the_askers_own(self):
        for name in ("s3", "one", "d4 shuffled"):
            first = kept_parts(GROUPS[name], TABLES[name])
            before = list(first)
            first.clear()
            later = kept_parts(GROUPS[name], TABLES[name])
            told(self, later, before)
            later.append("more")
            later[0] = None
            told(self, kept_parts(GROUPS[name], TABLES[name]), before)


class CentreAndDown(unittest.TestCase):
    def test_centre(self):
        for name, group in GROUPS.items():
            want = tuple(a for a, row in enumerate(group) if all(row[b] == group[b][a] for b in range(len(group))))
            told(self, untouched(self, centre, group), want)

    def test_centre_of_many_classes(self):
        for group in (cyclic(60), cyclic(31), twisted(30, 2, 29), pairs_of(cyclic(5), alternating(4))):
            group = shuffled(group, 3)
            want = tuple(a for a, row in enumerate(group) if all(row[b] == group[b][a] for b in range(len(group))))
            told(self, centre(group), want)

    def test_down_by_all_that_come_of_two_and_their_backs(self):
        for name, group in GROUPS.items():
            backs = [row.index(0) for row in group]
            makers = {
                group[group[a][b]][group[backs[a]][backs[b]]] for a in range(len(group)) for b in range(len(group))}
            want = part_by_hand(group, makers, False)
            got = untouched(self, down, group, TABLES[name])
            told(self, got, want)
            self.assertEqual(want, part_by_hand(group, makers, True))

    def test_down_by_the_rows_that_begin_with_1(self):
        for name, group in GROUPS.items():
            found = set(range(len(group)))
            for row in TABLES[name]:
                if row[0] == wholly(facts(group).n, 1):
                    found &= set(kernel_by_hand(group, row))
            told(self, down(group, TABLES[name]), tuple(sorted(found)))

    def test_down_is_the_least_such_kept_part(self):
        for name in few_classes():
            group = GROUPS[name]
            fit = [part for part in kept(group) if same_either_way(over_by_hand(group, part))]
            self.assertEqual([part for part in fit if len(part) == min(map(len, fit))], [down(group, TABLES[name])])
            for part in fit:
                self.assertLessEqual(set(down(group, TABLES[name])), set(part))

    def test_groups_in_which_all_go_either_way(self):
        for name, group in GROUPS.items():
            both = (centre(group), down(group, TABLES[name]))
            self.assertEqual(same_either_way(group), both[0] == tuple(range(len(group))))
            self.assertEqual(same_either_way(group), both[1] == (0,))

    def test_known(self):
        told(self, (centre(cyclic(1)), down(cyclic(1), TABLES["one"])), ((0,), (0,)))
        told(self, (centre(symmetric(3)), down(symmetric(3), TABLES["s3"])), ((0,), (0, 3, 4)))
        told(self, (centre(SQUARE), down(SQUARE, TABLES["d4"])), ((0, 4), (0, 4)))
        told(self, (centre(QUATERNIONS), down(QUATERNIONS, TABLES["q8"])), ((0, 4), (0, 4)))
        told(self, down(alternating(5), TABLES["a5"]), tuple(range(60)))


class Sorts(unittest.TestCase):
    def test_by_hand(self):
        met = set()
        for name, group in GROUPS.items():
            for row in TABLES[name]:
                got = untouched(self, sort_of, group, row)
                self.assertIs(type(got), int)
                want, rest, others = naive_sort(group, row)
                self.assertEqual((got, rest, set(others)), (want, 0, set(others) & {0}))
                met.add(got)
        self.assertEqual(met, {1, 0, -1})

    def test_sort_0_just_where_the_row_isnt_its_own_flip(self):
        for name, group in GROUPS.items():
            for row in TABLES[name]:
                flip = tuple(moved(facts(group).n, number, -1) for number in row)
                self.assertEqual(sort_of(group, row) == 0, flip != row)

    def test_known(self):
        self.assertEqual([sort_of(SQUARE, row) for row in TABLES["d4"]], [1, 1, 1, 1, 1])
        self.assertEqual([sort_of(QUATERNIONS, row) for row in TABLES["q8"]], [1, 1, 1, 1, -1])
        self.assertEqual([sort_of(cyclic(3), row) for row in TABLES["three"]], [0, 0, 1])
        self.assertEqual(sort_of(cyclic(1), ((1,),)), 1)
        self.assertEqual([sort_of(symmetric(4), row) for row in TABLES["s4"]], [1] * 5)


class Roots(unittest.TestCase):
    def test_squares_counted(self):
        for name, group in GROUPS.items():
            squares = [group[a][a] for a in range(len(group))]
            want = tuple(squares.count(members[0]) for members in facts(group).classes)
            told(self, untouched(self, roots_of, group, TABLES[name]), want)

    def test_each_thing_of_a_class(self):
        for name, group in GROUPS.items():
            got = roots_of(group, TABLES[name])
            self.assertEqual(sum(k * size for k, size in zip(got, facts(group).sizes)), len(group))

    def test_known(self):
        told(self, roots_of(SQUARE, TABLES["d4"]), (6, 0, 0, 0, 2))
        told(self, roots_of(QUATERNIONS, TABLES["q8"]), (2, 0, 0, 0, 6))
        told(self, roots_of(symmetric(3), TABLES["s3"]), (4, 0, 1))
        told(self, roots_of(cyclic(1), TABLES["one"]), (1,))


class CountsBy(unittest.TestCase):
    def test_against_the_counts(self):
        for name, group in GROUPS.items():
            known = facts(group)
            got = untouched(self, counts_by, known.n, known.sizes, TABLES[name])
            told(self, got, tuple(tuple(tuple(ends) for ends in seconds) for seconds in known.counts))
            told(self, got, counts_of(group))

    def test_by_hand(self):
        for name, group in GROUPS.items():
            known = facts(group)
            if len(known.sizes) <= 7 and known.n <= 30:
                want = counted_by_hand(known.n, known.sizes, TABLES[name])
                told(self, counts_by(known.n, known.sizes, TABLES[name]), want)

    def test_columns_in_another_order(self):
        chance = random.Random(140)
        for name in ("s3", "d4", "a4", "f21", "s4", "a5", "sl23", "six"):
            known = facts(GROUPS[name])
            order = list(range(1, len(known.sizes)))
            chance.shuffle(order)
            order = [0] + order
            sizes = tuple(known.sizes[c] for c in order)
            rows = tuple(sorted(tuple(row[c] for c in order) for row in TABLES[name]))
            want = tuple(tuple(tuple(known.counts[i][j][k] for k in order) for j in order) for i in order)
            told(self, counts_by(known.n, sizes, rows), want)

    def test_known(self):
        told(self, counts_by(1, (1,), (((1,),),)), (((1,),),))
        told(self, counts_by(2, (1, 1), (((1,), (-1,)), ((1,), (1,)))), (((1, 0), (0, 1)), ((0, 1), (1, 0))))
        told(self, counts_by(6, (1, 3, 2), TABLES["s3"]), (
            ((1, 0, 0), (0, 1, 0), (0, 0, 1)), ((0, 1, 0), (3, 0, 3), (0, 2, 0)), ((0, 0, 1), (0, 2, 0), (2, 0, 1))))


if __name__ == "__main__":
    unittest.main()
