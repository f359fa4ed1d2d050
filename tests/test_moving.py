"""Restricting and lifting: by the words walked by hand, and the same sums both ways."""

import random
import unittest

from classtab.deeds import on_sides, traces
from classtab.moving import lifted, restricted
from classtab.shares import shares_of
from classtab.spreads import is_spread, meeting
from classtab.tables import table_of
from tests.helper import (
    added, cyclic, facts, few_classes, inside_by_hand, naive_meeting, naive_traces, often, ones, part_by_hand,
    places_of, some_parts, some_rounds, some_spread, symmetric, told, turn, untouched, wholly, with_orders,
)

GROUPS = with_orders(few_classes())
PARTS = [(name, group, part) for name, group in GROUPS.items() for part in some_parts(group)]
GREAT = 10 ** 20 - 1


def lies_in(group, part):
    """For each class of the part's own group the class in which it lies."""
    own = facts(inside_by_hand(group, part))
    return [facts(group).numbers[part[members[-1]]] for members in own.classes]


def lifted_by_hand(group, part, n, spread):
    """Point 53's sum."""
    whole, own, lies = facts(group), facts(inside_by_hand(group, part)), lies_in(group, part)
    found = []
    for c, size in enumerate(whole.sizes):
        numbers = []
        for d, lie in enumerate(lies):
            if lie == c:
                k, rest = divmod(whole.count * own.sizes[d], own.count * size)
                if rest:
                    raise ArithmeticError("a whole number")
                numbers.append(often(spread[d], k))
        found.append(added(n, numbers))
    return tuple(found)


def lifted_by_turning(group, part, n, spread):
    """At a thing, the numbers at it turned by all things, where it is in the part then, over the part's count."""
    own = facts(inside_by_hand(group, part))
    found = []
    for members in facts(group).classes:
        turned = [turn(group, members[0], t) for t in range(len(group))]
        total = added(n, [spread[own.numbers[part.index(a)]] for a in turned if a in part])
        found.append(tuple(x // len(part) for x in total))
    return tuple(found)


class Restricted(unittest.TestCase):
    def test_by_hand(self):
        chance = random.Random(120)
        for name, group, part in PARTS:
            for n in some_rounds(group):
                spread = some_spread(group, n, chance, GREAT)
                want = tuple(spread[c] for c in lies_in(group, part))
                got = untouched(self, restricted, group, part, spread)
                told(self, got, want)
                self.assertIs(is_spread(inside_by_hand(group, part), n, got), True)

    def test_to_all_and_to_0(self):
        chance = random.Random(121)
        for name, group in GROUPS.items():
            spread = some_spread(group, facts(group).n, chance)
            told(self, restricted(group, tuple(range(len(group))), spread), spread)
            told(self, restricted(group, (0,), spread), spread[:1])

    def test_thing_by_thing(self):
        chance = random.Random(122)
        for name, group, part in PARTS:
            spread = some_spread(group, facts(group).n, chance)
            got = restricted(group, part, spread)
            own = facts(inside_by_hand(group, part))
            for k, a in enumerate(part):
                self.assertEqual(got[own.numbers[k]], spread[facts(group).numbers[a]])

    def test_known(self):
        spread = ((2, 0), (0, 0), (-1, 0))
        told(self, restricted(symmetric(3), (0, 3, 4), spread), ((2, 0), (-1, 0), (-1, 0)))
        told(self, restricted(symmetric(3), (0, 5), spread), ((2, 0), (0, 0)))
        told(self, restricted(cyclic(4), (0, 2), ((1, 0), (0, 1), (-1, 0), (0, -1))), ((1, 0), (-1, 0)))


class Lifted(unittest.TestCase):
    def test_by_hand(self):
        chance = random.Random(123)
        for name, group, part in PARTS:
            for n in some_rounds(group):
                spread = some_spread(inside_by_hand(group, part), n, chance, GREAT)
                got = untouched(self, lifted, group, part, spread)
                told(self, got, lifted_by_hand(group, part, n, spread))
                self.assertIs(is_spread(group, n, got), True)

    def test_by_turning(self):
        chance = random.Random(124)
        for name, group, part in PARTS:
            n = facts(group).n
            spread = some_spread(inside_by_hand(group, part), n, chance)
            told(self, lifted(group, part, spread), lifted_by_turning(group, part, n, spread))

    def test_from_all_and_from_0(self):
        chance = random.Random(125)
        for name, group in GROUPS.items():
            n = facts(group).n
            spread = some_spread(group, n, chance)
            told(self, lifted(group, tuple(range(len(group))), spread), spread)
            nought = (wholly(n, 0),) * (len(spread) - 1)
            told(self, lifted(group, (0,), spread[:1]), (often(spread[0], len(group)),) + nought)

    def test_nought_where_none_lies(self):
        got = lifted(symmetric(3), (0, 3, 4), ((1, 0), (0, 1), (1, -1)))
        told(self, got, ((2, 0), (0, 0), (1, 0)))
        got = lifted(symmetric(3), (0, 5), ((1, 0), (-1, 0)))
        told(self, got, ((3, 0), (-1, 0), (0, 0)))
        told(self, lifted(cyclic(4), (0, 2), ((1, 0), (0, 1))), ((2, 0), (0, 0), (0, 2), (0, 0)))
        told(self, lifted(cyclic(1), (0,), ((0, 7),)), ((0, 7),))

    def test_ones_lifted_are_the_traces_on_the_sides(self):
        for name, group, part in PARTS:
            if len(group) <= 24 * len(part):
                n = facts(group).n
                got = lifted(group, part, ones(inside_by_hand(group, part), n))
                told(self, got, naive_traces(group, places_of(group, part)))
                told(self, got, traces(group, on_sides(group, part)))

    def test_over_two_parts_within_one_another(self):
        chance = random.Random(126)
        cases = 0
        for name, group, part in PARTS:
            own = inside_by_hand(group, part)
            for inner in some_parts(own):
                both = tuple(part[k] for k in inner)
                n = facts(group).n
                spread = some_spread(inside_by_hand(own, inner), n, chance, GREAT)
                told(self, lifted(group, part, lifted(own, inner, spread)), lifted(group, both, spread))
                cases += len(inner) < len(part) < len(group)
        self.assertGreater(cases, 100)

    def test_a_pure_spread_lifted_has_shares(self):
        for name in ("s3", "a4 shuffled", "s4", "f20", "q8 shuffled", "f21"):
            group = GROUPS[name]
            n = facts(group).n
            table = table_of(group)
            for part in some_parts(group):
                got = lifted(group, part, ones(inside_by_hand(group, part), n))
                self.assertGreaterEqual(min(shares_of(group, table, got)), 0)


class BothWays(unittest.TestCase):
    def test_meetings_answer_one_another(self):
        chance = random.Random(127)
        for name, group, part in PARTS:
            own = inside_by_hand(group, part)
            for n in some_rounds(group)[:2]:
                one = some_spread(own, n, chance, 9)
                other = some_spread(group, n, chance, GREAT)
                upper = naive_meeting(group, n, lifted(group, part, one), other)
                lower = naive_meeting(own, n, one, restricted(group, part, other))
                self.assertEqual(often(upper, len(part)), often(lower, len(group)), name)
                self.assertEqual(meeting(group, n, lifted(group, part, one), other), upper)
                self.assertEqual(meeting(own, n, one, restricted(group, part, other)), lower)

    def test_kept_parts_and_others(self):
        group = symmetric(4)
        seen = []
        for things in ((1,), (3,), (7,), (1, 7), (3, 7), (9,)):
            part = part_by_hand(group, things, False)
            spread = ones(inside_by_hand(group, part), 12)
            told(self, lifted(group, part, spread), lifted_by_hand(group, part, 12, spread))
            seen.append(part == part_by_hand(group, things, True))
        self.assertIn(False, seen)


if __name__ == "__main__":
    unittest.main()
