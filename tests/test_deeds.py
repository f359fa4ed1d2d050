"""Deeds: which things are deeds, their traces and pieces, and the deeds that are told."""

import random
import unittest

from classtab.deeds import (
    beside, is_deed, on_pairs, on_sides, on_twos, own_deed, pieces, traces, turning_deed,
)
from tests.helper import (
    all_perms, cyclic, facts, few_classes, goes, naive_pieces, naive_traces, on_all, places_of, plain_things,
    sample_groups, some_deeds, some_parts, staying, symmetric, told, turning, untouched, wholly, with_orders,
)

GROUPS = sample_groups()
FEW = with_orders(few_classes())
DEEDS = [(name, group, deed) for name, group in GROUPS.items() for deed in some_deeds(group)]
FEW_DEEDS = [(name, group, deed) for name, group, deed in DEEDS if name in FEW]
SMALL = [(name, group, deed) for name, group, deed in DEEDS if len(deed[0]) <= 12]


def is_perm_by_hand(thing):
    return type(thing) is tuple and 1 <= len(thing) <= 24 and all(type(x) is int for x in thing) and (
        sorted(thing) == list(range(len(thing))))


def naive_deed(group, thing):
    """The words of point 3, one behind the other."""
    if type(thing) is not tuple or len(thing) != len(group) or not all(is_perm_by_hand(perm) for perm in thing):
        return False
    if len({len(perm) for perm in thing}) != 1 or thing[0] != tuple(range(len(thing[0]))):
        return False
    return all(
        thing[group[a][b]] == goes(thing[a], thing[b]) for a in range(len(group)) for b in range(len(group)))


def with_perm(deed, a, perm):
    return deed[:a] + (perm,) + deed[a + 1:]


class IsDeed(unittest.TestCase):
    def ask(self, group, thing):
        want = naive_deed(group, thing)
        self.assertIs(untouched(self, is_deed, group, thing), want, thing)
        return want

    def test_deeds(self):
        for name, group, deed in DEEDS:
            self.assertIs(untouched(self, is_deed, group, deed), True, name)

    def test_perms_of_a_group_made_by_them(self):
        for makers in ([(1, 0, 2), (1, 2, 0)], [(1, 2, 3, 4, 0)], [(1, 0, 3, 2), (2, 3, 0, 1)],
                       [(1, 2, 0, 3), (0, 2, 3, 1)], [(1, 2, 3, 0), (1, 0, 2, 3)]):
            found = all_perms(makers)
            group = tuple(tuple(found.index(goes(a, b)) for b in found) for a in found)
            self.assertIs(is_deed(group, tuple(found)), True)
            self.assertIs(is_deed(group, found), False)

    def test_bent(self):
        for name, group, deed in SMALL[::2]:
            m = len(deed[0])
            wrong = [
                list(deed), deed[1:], deed[:-1], deed + deed[-1:], deed + (None,), (deed,), [deed], deed[0], (), None,
                True, str(deed), {0: deed}, tuple(list(perm) for perm in deed), with_perm(deed, 0, list(deed[0])),
                with_perm(deed, len(deed) - 1, list(deed[-1])), with_perm(deed, len(deed) - 1, deed[-1][:-1] + (m,)),
                with_perm(deed, 0, (False,) + deed[0][1:]), with_perm(deed, len(deed) - 1, deed[-1][:-1] + (-1,)),
            ]
            if len(deed) > 1:
                longer = tuple(perm + (m,) for perm in deed)
                wrong.extend([longer[:-1] + deed[-1:], deed[:-1] + longer[-1:], deed[:1] + longer[1:]])
            for thing in (None, 0, True, "0", (), {}, [0], (0, 0), (None,), ("0",), (1,), (True,), 5):
                wrong.extend([with_perm(deed, 0, thing), with_perm(deed, len(deed) - 1, thing)])
            for thing in wrong:
                self.assertIs(untouched(self, is_deed, group, thing), False, (name, thing))

    def test_truths(self):
        self.assertIs(is_deed(cyclic(2), ((0, 1), (1, 0))), True)
        self.assertIs(is_deed(cyclic(2), ((0, 1), (True, 0))), False)
        self.assertIs(is_deed(cyclic(2), ((False, 1), (1, 0))), False)
        self.assertIs(is_deed(cyclic(1), ((0,),)), True)
        self.assertIs(is_deed(cyclic(1), ((False,),)), False)

    def test_places(self):
        for m in range(1, 30):
            for group in (cyclic(1), cyclic(3), symmetric(3)):
                self.assertIs(is_deed(group, staying(group, m)), m <= 24, m)
        self.assertIs(is_deed(cyclic(1), ((),)), False)

    def test_0_must_leave_each_place(self):
        self.assertIs(is_deed(cyclic(1), ((1, 0),)), False)
        self.assertIs(is_deed(cyclic(2), ((1, 0), (0, 1))), False)
        self.assertIs(is_deed(cyclic(2), ((1, 0), (1, 0))), False)
        for name, group, deed in SMALL:
            if len(deed[0]) > 1:
                other = (1, 0) + tuple(range(2, len(deed[0])))
                self.assertIs(is_deed(group, with_perm(deed, 0, other)), False, name)

    def test_another_perm_for_one_thing(self):
        chance = random.Random(90)
        seen = []
        for name, group, deed in DEEDS:
            if len(deed[0]) > 1:
                a = chance.randrange(len(group))
                perm = list(deed[a])
                chance.shuffle(perm)
                seen.append(self.ask(group, with_perm(deed, a, tuple(perm))))
        self.assertIn(False, seen)

    def test_two_exchanged(self):
        chance = random.Random(91)
        seen = []
        for name, group, deed in DEEDS:
            if len(group) > 2:
                a, b = chance.sample(range(1, len(group)), 2)
                seen.append(self.ask(group, with_perm(with_perm(deed, a, deed[b]), b, deed[a])))
        self.assertIn(False, seen)
        self.assertIn(True, seen)

    def test_the_other_way_about(self):
        # b goes to b times a: this goes the other way about, unless all times are the same either way.
        seen = []
        for name, group in GROUPS.items():
            if len(group) <= 24:
                things = range(len(group))
                seen.append(self.ask(group, tuple(tuple(group[b][a] for b in things) for a in things)))
                self.assertIs(
                    is_deed(group, tuple(tuple(group[b][group[a].index(0)] for b in things) for a in things)), True)
        self.assertIn(False, seen)
        self.assertIn(True, seen)

    def test_all_small_ones(self):
        perms = [(0, 1, 2), (0, 2, 1), (1, 0, 2), (1, 2, 0), (2, 0, 1), (2, 1, 0)]
        found = []
        for group in (cyclic(2), cyclic(3)):
            things = [()]
            for a in range(len(group)):
                things = [thing + (perm,) for thing in things for perm in perms]
            found.append([self.ask(group, thing) for thing in things].count(True))
        self.assertEqual(found, [4, 3])

    def test_any_plain_thing(self):
        for thing in plain_things():
            for name in ("one", "two", "s3", "a5"):
                self.assertIs(untouched(self, is_deed, GROUPS[name], thing), naive_deed(GROUPS[name], thing), thing)


class TracesAndPieces(unittest.TestCase):
    def test_traces(self):
        for name, group, deed in FEW_DEEDS:
            got = untouched(self, traces, group, deed)
            told(self, got, naive_traces(group, deed))
            for c, members in enumerate(facts(group).classes):
                for a in members:
                    left = sum(1 for i, place in enumerate(deed[a]) if i == place)
                    told(self, got[c], wholly(facts(group).n, left))

    def test_known_traces(self):
        told(self, traces(symmetric(3), ((0, 1, 2), (0, 2, 1), (1, 0, 2), (1, 2, 0), (2, 0, 1), (2, 1, 0))),
             ((3, 0), (1, 0), (0, 0)))
        told(self, traces(cyclic(1), ((0, 1, 2, 3),)), ((4,),))
        told(self, traces(cyclic(2), ((0, 1, 2), (1, 0, 2))), ((3,), (1,)))

    def test_pieces(self):
        for name, group, deed in DEEDS:
            told(self, untouched(self, pieces, group, deed), naive_pieces(deed))

    def test_known_pieces(self):
        told(self, pieces(cyclic(1), ((0, 1, 2),)), ((0,), (1,), (2,)))
        told(self, pieces(cyclic(2), ((0, 1, 2, 3), (2, 1, 0, 3))), ((0, 2), (1,), (3,)))
        told(self, pieces(cyclic(3), ((0, 1, 2, 3), (3, 1, 0, 2), (2, 1, 3, 0))), ((0, 2, 3), (1,)))


class DeedsTold(unittest.TestCase):
    def test_on_sides(self):
        for name, group in GROUPS.items():
            for part in some_parts(group):
                got = untouched(self, on_sides, group, part)
                if len(group) <= 24 * len(part):
                    told(self, got, places_of(group, part))
                    self.assertIs(is_deed(group, got), True)

    def test_own_and_turning(self):
        for name, group in GROUPS.items():
            if len(group) <= 24:
                told(self, untouched(self, own_deed, group), on_all(group))
                told(self, untouched(self, turning_deed, group), turning(group))
                self.assertIs(is_deed(group, own_deed(group)), True)
                self.assertIs(is_deed(group, turning_deed(group)), True)

    def test_pieces_of_those(self):
        for name, group in GROUPS.items():
            if len(group) <= 24:
                told(self, pieces(group, own_deed(group)), (tuple(range(len(group))),))
                told(self, pieces(group, turning_deed(group)), facts(group).classes)

    def pairs(self):
        chance = random.Random(92)
        for name, group, one in DEEDS:
            other = chance.choice([deed for deed in some_deeds(group)])
            yield group, one, other

    def test_beside(self):
        for group, one, other in self.pairs():
            m, k = len(one[0]), len(other[0])
            if m + k <= 24:
                want = tuple(
                    tuple(one[a][i] if i < m else m + other[a][i - m] for i in range(m + k)) for a in range(len(group)))
                got = untouched(self, beside, one, other)
                told(self, got, want)
                self.assertIs(is_deed(group, got), True)

    def test_on_pairs(self):
        for group, one, other in self.pairs():
            m, k = len(one[0]), len(other[0])
            if m * k <= 24:
                want = tuple(
                    tuple(one[a][p // k] * k + other[a][p % k] for p in range(m * k)) for a in range(len(group)))
                got = untouched(self, on_pairs, one, other)
                told(self, got, want)
                self.assertIs(is_deed(group, got), True)

    def test_on_twos(self):
        seen = []
        for name, group, deed in DEEDS:
            m = len(deed[0])
            if 2 <= m <= 7:
                twos = [(i, j) for i in range(m) for j in range(m) if i < j]
                want = tuple(
                    tuple(twos.index((min(perm[i], perm[j]), max(perm[i], perm[j]))) for i, j in twos) for perm in deed)
                got = untouched(self, on_twos, deed)
                told(self, got, want)
                self.assertIs(is_deed(group, got), True)
                seen.append(m)
        self.assertEqual(sorted(set(seen)), [2, 3, 4, 5, 6, 7])

    def test_known(self):
        group = symmetric(3)
        natural = ((0, 1, 2), (0, 2, 1), (1, 0, 2), (1, 2, 0), (2, 0, 1), (2, 1, 0))
        told(self, on_sides(group, (0, 1)), natural)
        told(self, on_twos(natural), ((0, 1, 2), (1, 0, 2), (0, 2, 1), (2, 0, 1), (1, 2, 0), (2, 1, 0)))
        told(self, on_sides(group, (0, 3, 4)), ((0, 1), (1, 0), (1, 0), (0, 1), (0, 1), (1, 0)))
        told(self, own_deed(cyclic(3)), ((0, 1, 2), (1, 2, 0), (2, 0, 1)))
        told(self, turning_deed(cyclic(3)), ((0, 1, 2),) * 3)
        told(self, beside(((0, 1), (1, 0)), ((0,), (0,))), ((0, 1, 2), (1, 0, 2)))
        told(self, beside(((0,), (0,)), ((0, 1), (1, 0))), ((0, 1, 2), (0, 2, 1)))
        told(self, on_pairs(((0, 1), (1, 0)), ((0, 1, 2), (0, 2, 1))), ((0, 1, 2, 3, 4, 5), (3, 5, 4, 0, 2, 1)))
        told(self, on_twos(((0, 1), (1, 0))), ((0,), (0,)))

    def test_traces_of_deeds_put_together(self):
        for name, group, one in FEW_DEEDS:
            other = places_of(group, some_parts(group)[-1])
            first = [number[0] for number in naive_traces(group, one)]
            second = [number[0] for number in naive_traces(group, other)]
            if len(one[0]) + len(other[0]) <= 24:
                got = [number[0] for number in traces(group, beside(one, other))]
                self.assertEqual(got, [x + y for x, y in zip(first, second)])
            if len(one[0]) * len(other[0]) <= 24:
                got = [number[0] for number in traces(group, on_pairs(one, other))]
                self.assertEqual(got, [x * y for x, y in zip(first, second)])


if __name__ == "__main__":
    unittest.main()
