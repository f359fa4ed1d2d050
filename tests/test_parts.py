"""Parts: which things are parts, the least ones, their sides, and the groups that they make."""

import itertools
import random
import unittest

from classtab.errors import NoPart
from classtab.groups import ask_group
from classtab.parts import classes_in, inside, is_kept, is_part, kept_by, over, part_by, sides
from tests.helper import (
    cyclic, inside_by_hand, naive_classes, part_by_hand, plain_things, sample_groups, sides_by_hand, some_parts, told,
    turn, twisted, untouched,
)

GROUPS = sample_groups()
SMALL = ("one", "two", "three", "twos", "six", "s3", "s3 shuffled", "d4", "d4 shuffled", "q8", "eight shuffled")


def closed(group, things):
    return 0 in things and all(group[a][b] in things for a in things for b in things)


def stays(group, things):
    return all(turn(group, a, t) in things for a in things for t in range(len(group)))


def subsets(group):
    for size in range(len(group) + 1):
        for things in itertools.combinations(range(len(group)), size):
            yield things


PARTS = [(name, group, part) for name, group in GROUPS.items() for part in some_parts(group)]


class IsPart(unittest.TestCase):
    def test_all_tuples_of_things(self):
        for name in SMALL:
            group = GROUPS[name]
            for things in subsets(group):
                self.assertIs(is_part(group, things), closed(group, things), (name, things))

    def test_parts(self):
        for name, group, part in PARTS:
            self.assertIs(untouched(self, is_part, group, part), True, name)

    def test_faults(self):
        for name, group, part in PARTS:
            n = len(group)
            self.assertIs(is_part(group, list(part)), False)
            self.assertIs(is_part(group, part[1:]), False)
            self.assertIs(is_part(group, (0,) + part), False)
            self.assertIs(is_part(group, part + part[-1:]), False)
            self.assertIs(is_part(group, part + (n,)), False)
            self.assertIs(is_part(group, (-1,) + part), False)
            self.assertIs(is_part(group, (False,) + part[1:]), False)
            self.assertIs(is_part(group, part + (None,)), False)
            self.assertIs(is_part(group, (part,)), False)
            if len(part) > 2:
                self.assertIs(is_part(group, part[:-1]), False)
                self.assertIs(is_part(group, part[:1] + part[2:]), False)
            if len(part) > 1:
                self.assertIs(is_part(group, part[::-1]), False)
                self.assertIs(is_part(group, part[1:] + (0,)), False)
                for wrong in (n, -1, None, "1", [1], (1,), {}, 10 ** 39, -n + part[-1]):
                    self.assertIs(is_part(group, part[:-1] + (wrong,)), False)
                    self.assertIs(is_part(group, (wrong,) + part[1:]), False)

    def test_truths(self):
        self.assertIs(is_part(cyclic(2), (0, 1)), True)
        self.assertIs(is_part(cyclic(2), (0, True)), False)
        self.assertIs(is_part(cyclic(2), (False, 1)), False)
        self.assertIs(is_part(cyclic(1), (False,)), False)
        self.assertIs(is_part(cyclic(1), (0,)), True)

    def test_a_thing_times_itself(self):
        self.assertIs(is_part(cyclic(3), (0, 1)), False)
        self.assertIs(is_part(cyclic(4), (0, 2)), True)

    def test_any_plain_thing(self):
        for thing in plain_things():
            for name in ("one", "two", "s3", "a5"):
                self.assertIs(untouched(self, is_part, GROUPS[name], thing), False, thing)


class LeastParts(unittest.TestCase):
    def test_no_things(self):
        for name, group in GROUPS.items():
            for none in ([], ()):
                told(self, part_by(group, none), (0,))
                told(self, kept_by(group, none), (0,))
            told(self, part_by(group, [0, 0]), (0,))
            told(self, kept_by(group, (0,)), (0,))

    def test_the_least_of_all_parts(self):
        for name in SMALL:
            group = GROUPS[name]
            parts = [things for things in subsets(group) if closed(group, things)]
            kept = [part for part in parts if stays(group, part)]
            for things in subsets(group):
                told(self, part_by(group, things), min((p for p in parts if set(things) <= set(p)), key=len))
                told(self, kept_by(group, things), min((p for p in kept if set(things) <= set(p)), key=len))

    def test_in_any_order_and_some_twice(self):
        chance = random.Random(50)
        for name, group in GROUPS.items():
            for size in (1, 2, 3):
                things = [chance.randrange(len(group)) for k in range(size)]
                things = things + things[:2]
                chance.shuffle(things)
                part = part_by_hand(group, things, False)
                kept = part_by_hand(group, things, True)
                told(self, untouched(self, part_by, group, things), part)
                told(self, untouched(self, kept_by, group, things), kept)
                told(self, part_by(group, tuple(things)), part)
                told(self, kept_by(group, tuple(things)), kept)

    def test_two_hundred_things(self):
        for name in ("sixty", "a5 shuffled"):
            things = [k % 60 for k in range(200)]
            told(self, part_by(GROUPS[name], things), tuple(range(60)))
            told(self, kept_by(GROUPS[name], things), tuple(range(60)))

    def test_known(self):
        told(self, part_by(cyclic(12), [8]), (0, 4, 8))
        told(self, part_by(cyclic(12), [8, 6]), (0, 2, 4, 6, 8, 10))
        told(self, part_by(GROUPS["s3"], (5,)), (0, 5))
        told(self, kept_by(GROUPS["s3"], (5,)), (0, 1, 2, 3, 4, 5))
        told(self, kept_by(GROUPS["s3"], (4,)), (0, 3, 4))

    def test_is_kept(self):
        for name, group, part in PARTS:
            self.assertIs(untouched(self, is_kept, group, part), stays(group, part), (name, part))


class Sides(unittest.TestCase):
    def test_sides(self):
        for name, group, part in PARTS:
            told(self, untouched(self, sides, group, part), sides_by_hand(group, part))

    def test_known(self):
        told(self, sides(GROUPS["s3"], (0, 1)), ((0, 1), (2, 3), (4, 5)))
        told(self, sides(twisted(4, 2, 3), (0, 1)), ((0, 1), (2, 3), (4, 5), (6, 7)))
        told(self, sides(cyclic(4), (0, 2)), ((0, 2), (1, 3)))
        told(self, sides(cyclic(3), (0,)), ((0,), (1,), (2,)))
        told(self, sides(cyclic(3), (0, 1, 2)), ((0, 1, 2),))


class OwnGroup(unittest.TestCase):
    def test_inside(self):
        for name, group, part in PARTS:
            got = untouched(self, inside, group, part)
            told(self, got, inside_by_hand(group, part))
            self.assertIs(ask_group(got), True)

    def test_classes_in(self):
        for name, group, part in PARTS:
            own = inside_by_hand(group, part)
            whole_ones = naive_classes(group)
            want = []
            for members in naive_classes(own):
                lies = {k for k, things in enumerate(whole_ones) for a in members if part[a] in things}
                self.assertEqual(len(lies), 1)
                want.extend(lies)
            told(self, untouched(self, classes_in, group, part), tuple(want))

    def test_known(self):
        told(self, classes_in(GROUPS["s3"], (0, 3, 4)), (0, 2, 2))
        told(self, classes_in(GROUPS["s3"], (0, 5)), (0, 1))
        told(self, inside(GROUPS["s3"], (0, 3, 4)), cyclic(3))


class Over(unittest.TestCase):
    def test_over(self):
        seen = {}
        for name, group, part in PARTS:
            kept = stays(group, part)
            seen[kept] = True
            if not kept:
                with self.assertRaises(NoPart):
                    untouched(self, over, group, part)
                continue
            got = untouched(self, over, group, part)
            found = sides_by_hand(group, part)
            want = tuple(
                tuple([k for k, s in enumerate(found) if group[one[-1]][other[-1]] in s][0] for other in found)
                for one in found)
            told(self, got, want)
            self.assertIs(ask_group(got), True)
        self.assertEqual(len(seen), 2)

    def test_over_the_least_and_the_greatest(self):
        for name, group in GROUPS.items():
            told(self, over(group, (0,)), group)
            told(self, over(group, tuple(range(len(group)))), ((0,),))

    def test_known(self):
        told(self, over(GROUPS["s3"], (0, 3, 4)), cyclic(2))
        told(self, over(cyclic(6), (0, 3)), cyclic(3))
        for k in (1, 2, 5):
            with self.assertRaises(NoPart):
                over(GROUPS["s3"], (0, k))


if __name__ == "__main__":
    unittest.main()
