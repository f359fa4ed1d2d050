"""Spreads: which things are spreads, what is done to them number by number, and meetings."""

import random
import unittest

from classtab.spreads import (
    is_spread, meeting, spread_flipped, spread_plus, spread_scaled, spread_times, widened_spread,
)
from tests.helper import (
    coprime, cyclic, facts, few_classes, looks_so, moved, multiplied, naive_meeting, often, ones, plain_things,
    remains, some_rounds, some_spread, stretched, symmetric, told, untouched, wholly, with_orders,
)

GROUPS = with_orders(few_classes())
GREAT = 10 ** 20 - 1


def bent(spread):
    """Things near a spread that have another shape: lengths and kinds, outside and within."""
    first = spread[0]
    found = [
        list(spread), spread[1:], spread[:-1], spread + (first,), (spread,), [spread], (), first, spread + (None,),
        (first + (0,),) + spread[1:], (first[1:],) + spread[1:], spread[:-1] + (spread[-1] + (0,),),
        spread[:-1] + (spread[-1][:-1],), {0: spread}, str(spread), None, True, 1,
    ]
    for wrong in (list(first), None, True, 0, 1, "0", (), (first,), {}, first + first):
        found.append((wrong,) + spread[1:])
        found.append(spread[:-1] + (wrong,))
    for wrong in (True, False, None, "0", "", (), (0,), [], [0], {}):
        found.append(((wrong,) + first[1:],) + spread[1:])
        found.append(spread[:-1] + (spread[-1][:-1] + (wrong,),))
    return found


class IsSpread(unittest.TestCase):
    def test_spreads(self):
        chance = random.Random(60)
        for name, group in GROUPS.items():
            for n in some_rounds(group):
                for most in (1, GREAT, 10 ** 40 - 1):
                    spread = some_spread(group, n, chance, most)
                    self.assertIs(untouched(self, is_spread, group, n, spread), True, (name, n))

    def test_rounds_that_do_not_divide(self):
        chance = random.Random(61)
        for name, group in GROUPS.items():
            for n in range(1, 61):
                spread = some_spread(group, n, chance)
                self.assertIs(is_spread(group, n, spread), n % facts(group).n == 0, (name, n))

    def test_known_rounds(self):
        for n in range(1, 61):
            number = (0,) * len(coprime(n))
            self.assertIs(is_spread(cyclic(1), n, (number,)), True)
            self.assertIs(is_spread(cyclic(2), n, (number,) * 2), n % 2 == 0)
            self.assertIs(is_spread(symmetric(3), n, (number,) * 3), n % 6 == 0)
        self.assertIs(is_spread(cyclic(2), 1, ((1,), (1,))), False)
        self.assertIs(is_spread(symmetric(3), 3, ((1, 0), (1, 0), (1, 0))), False)

    def test_other_lengths(self):
        for group in (cyclic(1), cyclic(3), symmetric(3), GROUPS["q8"]):
            for n in some_rounds(group):
                for length in range(6):
                    for places in range(20):
                        thing = ((0,) * places,) * length
                        self.assertIs(is_spread(group, n, thing), looks_so(group, n, thing), (n, thing))

    def test_bent(self):
        chance = random.Random(62)
        for name, group in GROUPS.items():
            for n in some_rounds(group):
                for thing in bent(some_spread(group, n, chance)):
                    self.assertIs(untouched(self, is_spread, group, n, thing), False, (name, n, thing))

    def test_truths_that_look_like_numbers(self):
        self.assertIs(is_spread(cyclic(1), 1, ((1,),)), True)
        self.assertIs(is_spread(cyclic(1), 1, ((True,),)), False)
        self.assertIs(is_spread(cyclic(1), 1, ((False,),)), False)
        self.assertIs(is_spread(cyclic(2), 4, ((1, 0), (1, False))), False)

    def test_any_plain_thing(self):
        for thing in plain_things():
            for name in ("one", "two", "s3", "a5 shuffled"):
                for n in range(facts(GROUPS[name]).n, 61, facts(GROUPS[name]).n):
                    self.assertIs(untouched(self, is_spread, GROUPS[name], n, thing), False, thing)


class NumberByNumber(unittest.TestCase):
    def pairs(self, seed):
        chance = random.Random(seed)
        for name, group in GROUPS.items():
            for n in some_rounds(group):
                for most in (3, GREAT):
                    yield group, n, some_spread(group, n, chance, most), some_spread(group, n, chance, most)

    def test_plus(self):
        for group, n, one, other in self.pairs(63):
            want = tuple(tuple(x + y for x, y in zip(a, b)) for a, b in zip(one, other))
            told(self, untouched(self, spread_plus, one, other), want)

    def test_times(self):
        for group, n, one, other in self.pairs(64):
            want = tuple(remains(n, multiplied(a, b)) for a, b in zip(one, other))
            told(self, untouched(self, spread_times, n, one, other), want)
            told(self, spread_times(n, one, ones(group, n)), one)

    def test_flipped(self):
        for group, n, one, other in self.pairs(65):
            got = untouched(self, spread_flipped, n, one)
            told(self, got, tuple(moved(n, a, -1) for a in one))
            told(self, spread_flipped(n, got), one)

    def test_scaled(self):
        for group, n, one, other in self.pairs(66):
            for k in (0, 1, -1, 7, -GREAT, 10 ** 39):
                told(self, untouched(self, spread_scaled, one, k), tuple(often(a, k) for a in one))

    def test_widened(self):
        chance = random.Random(67)
        for name, group in GROUPS.items():
            for n in some_rounds(group):
                one = some_spread(group, n, chance, GREAT)
                for m in range(n, 61, n):
                    want = tuple(stretched(n, a, m) for a in one)
                    told(self, untouched(self, widened_spread, n, one, m), want)

    def test_known(self):
        told(self, spread_plus(((1,), (-2,)), ((3,), (2,))), ((4,), (0,)))
        told(self, spread_times(4, ((0, 1), (2, 0)), ((0, 1), (0, -1))), ((-1, 0), (0, -2)))
        told(self, spread_flipped(3, ((1, 0), (0, 1), (-1, -1))), ((1, 0), (-1, -1), (0, 1)))
        told(self, spread_scaled(((1,), (-1,)), -3), ((-3,), (3,)))
        told(self, widened_spread(2, ((5,), (-7,)), 4), ((5, 0), (-7, 0)))
        told(self, widened_spread(3, ((0, 1),), 6), ((-1, 1),))


class Meeting(unittest.TestCase):
    def test_by_hand(self):
        chance = random.Random(68)
        for name, group in GROUPS.items():
            for n in some_rounds(group):
                for most in (3, GREAT):
                    one = some_spread(group, n, chance, most)
                    other = some_spread(group, n, chance, most)
                    got = untouched(self, meeting, group, n, one, other)
                    told(self, got, naive_meeting(group, n, one, other))
                    told(self, meeting(group, n, other, one), moved(n, got, -1))

    def test_thing_by_thing(self):
        chance = random.Random(69)
        for name, group in GROUPS.items():
            known = facts(group)
            one = some_spread(group, known.n, chance)
            other = some_spread(group, known.n, chance)
            total = [0] * (2 * known.n)
            for c in known.numbers:
                for k, x in enumerate(multiplied(one[c], moved(known.n, other[c], -1))):
                    total[k] += x
            told(self, meeting(group, known.n, one, other), remains(known.n, total))

    def test_of_sums_the_sum(self):
        chance = random.Random(70)
        for name, group in GROUPS.items():
            n = facts(group).n
            one, other, third = [some_spread(group, n, chance) for k in range(3)]
            both = tuple(tuple(x + y for x, y in zip(a, b)) for a, b in zip(one, other))
            first = meeting(group, n, one, third)
            second = meeting(group, n, other, third)
            told(self, meeting(group, n, both, third), tuple(x + y for x, y in zip(first, second)))
            tripled = tuple(often(a, -3) for a in one)
            told(self, meeting(group, n, tripled, third), often(first, -3))

    def test_ones_meet_in_the_count(self):
        for name, group in GROUPS.items():
            for n in some_rounds(group):
                told(self, meeting(group, n, ones(group, n), ones(group, n)), wholly(n, len(group)))

    def test_a_class_alone_meets_in_its_size(self):
        for name, group in GROUPS.items():
            n = facts(group).n
            for c, size in enumerate(facts(group).sizes):
                alone = tuple(wholly(n, 1 if k == c else 0) for k in range(len(facts(group).sizes)))
                told(self, meeting(group, n, alone, alone), wholly(n, size))
                told(self, meeting(group, n, alone, ones(group, n)), wholly(n, size))

    def test_known(self):
        told(self, meeting(cyclic(4), 4, ((1, 0), (0, 1), (-1, 0), (0, -1)), ((1, 0),) * 4), (0, 0))
        told(self, meeting(cyclic(2), 4, ((1, 0), (0, 1)), ((1, 0), (1, 0))), (1, 1))
        told(self, meeting(cyclic(2), 4, ((1, 0), (1, 0)), ((1, 0), (0, 1))), (1, -1))
        told(self, meeting(symmetric(3), 6, ((2, 0), (0, 0), (-1, 0)), ((3, 0), (1, 0), (0, 0))), (6, 0))


if __name__ == "__main__":
    unittest.main()
