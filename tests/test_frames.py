"""Frames, and whether a thing is a match of two."""

import itertools
import random
import unittest

from classtab.frames import frame_of, is_match
from classtab.tables import table_of
from tests.helper import (
    cyclic, facts, few_classes, framed, in_order, naive_match, plain_things, shuffled, some_order, symmetric,
    table_groups, ten_columns, told, twisted, untouched, with_orders,
)

GROUPS = table_groups()
GROUPS.update(with_orders(ten_columns()))
FRAMES = {name: framed(group, table_of(group)) for name, group in GROUPS.items()}
FEW = [name for name in FRAMES if len(FRAMES[name][1]) <= 10]


def way(group, order):
    """The match of a group and the group renamed by an order: class by class, where its things go."""
    other = in_order(group, order)
    return tuple(facts(other).numbers[order.index(members[-1])] for members in facts(group).classes)


class FrameOf(unittest.TestCase):
    def test_by_hand(self):
        for name, group in GROUPS.items():
            table = table_of(group)
            told(self, untouched(self, frame_of, group, table), (facts(group).n, facts(group).sizes, table))

    def test_known(self):
        told(self, frame_of(cyclic(1), (((1,),),)), (1, (1,), (((1,),),)))
        told(self, frame_of(symmetric(3), table_of(symmetric(3))), (6, (1, 3, 2), (
            ((1, 0), (-1, 0), (1, 0)), ((1, 0), (1, 0), (1, 0)), ((2, 0), (0, 0), (-1, 0)))))


class IsMatch(unittest.TestCase):
    def ask(self, one, other, thing):
        want = naive_match(one, other, thing)
        self.assertIs(untouched(self, is_match, one, other, thing), want)
        return want

    def test_renamed(self):
        for name in few_classes():
            group = GROUPS[name]
            for seed in range(3):
                order = some_order(len(group), seed + 200)
                other = in_order(group, order)
                frame = framed(other, table_of(other))
                self.assertIs(is_match(FRAMES[name], frame, way(group, order)), True, name)
                self.assertTrue(self.ask(FRAMES[name], frame, way(group, order)))

    def test_each_on_itself(self):
        for name, frame in FRAMES.items():
            self.assertIs(is_match(frame, frame, tuple(range(len(frame[1])))), True)

    def test_one_way_and_the_other_way_about(self):
        for name in FEW:
            group = GROUPS[name]
            order = some_order(len(group), 7)
            there = way(group, order)
            other = in_order(group, order)
            frame = framed(other, table_of(other))
            again = tuple(there.index(c) for c in range(len(there)))
            self.assertIs(is_match(frame, FRAMES[name], again), True)

    def test_all_layings(self):
        met = set()
        for one, other in (("s3", "s3 shuffled"), ("d4", "q8"), ("q8 shuffled", "d4"), ("a4", "a4 shuffled"),
                           ("twos", "twos shuffled"), ("four", "twos"), ("four", "four shuffled"), ("f20", "f20"),
                           ("f21 shuffled", "f21"), ("s4", "s4 shuffled"), ("a5", "a5 shuffled"),
                           ("six", "six shuffled"), ("f20", "f21"), ("d5", "d5 shuffled"), ("dic3", "d6"),
                           ("one", "one"), ("two", "two")):
            for thing in itertools.permutations(range(len(FRAMES[one][1]))):
                met.add((one, self.ask(FRAMES[one], FRAMES[other], thing)))
        for name in ("s3", "d4", "q8 shuffled", "a4", "twos", "four", "f20", "f21 shuffled", "s4", "a5", "six"):
            self.assertIn((name, True), met)
            self.assertIn((name, False), met)
        self.assertNotIn(("dic3", True), met)

    def test_the_square_and_the_quaternions(self):
        square, other = framed(twisted(4, 2, 3), table_of(twisted(4, 2, 3))), FRAMES["q8"]
        self.assertIs(is_match(square, other, (0, 1, 2, 3, 4)), True)
        self.assertIs(is_match(square, other, (0, 3, 1, 2, 4)), True)
        self.assertIs(is_match(square, other, (0, 1, 2, 4, 3)), False)
        self.assertIs(is_match(square, other, (4, 1, 2, 3, 0)), False)

    def test_wrong_layings(self):
        for name in FEW:
            frame = FRAMES[name]
            m = len(frame[1])
            right = tuple(range(m))
            wrong = [
                right[:-1], right + (m,), right + (0,), right + right, right[:-1] + (m,), right[:-1] + (-1,),
                right[:-1] + (10 ** 39,), right[:-1] + (None,), right[:-1] + (str(m - 1),), right[:-1] + ((m - 1,),),
                list(right), str(right), dict(enumerate(right)), (right,), (list(right),), (False,) + right[1:],
                ("0",) + right[1:], right[1:] + (None,), (-m,) + right[1:], tuple(d - m for d in right),
            ]
            if m > 1:
                wrong.extend([right[:-1] + (0,), (0,) + (0,) + right[2:], right[1:] + right[:1], (0, True) + right[2:],
                              (1, 0) + right[2:], (1,) + right[1:], right[::-1]])
            for thing in wrong:
                self.assertFalse(self.ask(frame, frame, thing), (name, thing))

    def test_sizes_unlike(self):
        # Rows alone would let these by: the columns of three and of two things in their other order.
        frame = FRAMES["s3"]
        self.assertIs(is_match(frame, frame, (0, 2, 1)), False)
        twos, fours = framed(cyclic(4), table_of(cyclic(4))), (4, (1, 1, 1, 2), table_of(cyclic(4)))
        self.assertIs(is_match(twos, twos, (0, 3, 2, 1)), True)
        self.assertIs(is_match(fours, fours, (0, 3, 2, 1)), False)
        self.assertIs(is_match(fours, twos, (0, 1, 2, 3)), False)

    def test_rows_unlike(self):
        frame = FRAMES["four"]
        self.assertIs(is_match(frame, frame, (0, 1, 2, 3)), True)
        self.assertIs(is_match(frame, frame, (0, 2, 1, 3)), False)
        self.assertIs(is_match(FRAMES["twos"], FRAMES["twos"], (0, 2, 1, 3)), True)

    def test_n_or_how_many_columns_unlike(self):
        chance = random.Random(150)
        for case in range(300):
            one, other = [FRAMES[name] for name in chance.sample(FEW, 2)]
            for m in (len(one[1]), len(other[1])):
                for thing in (tuple(range(m)), tuple(some_order(m, case))):
                    self.ask(one, other, thing)
        self.assertIs(is_match(FRAMES["twos"], FRAMES["four"], (0, 1, 2, 3)), False)
        self.assertIs(is_match((3,) + FRAMES["s3"][1:], FRAMES["s3"], (0, 1, 2)), False)
        self.assertIs(is_match(FRAMES["two"], FRAMES["four"], (0, 1)), False)
        self.assertIs(is_match(FRAMES["two"], FRAMES["four"], (0, 1, 2, 3)), False)
        self.assertIs(is_match(FRAMES["four"], FRAMES["two"], (0, 1, 0, 1)), False)
        self.assertIs(is_match(FRAMES["one"], FRAMES["two"], (0,)), False)
        self.assertIs(is_match(FRAMES["two"], FRAMES["one"], (0, 0)), False)

    def test_somewhat_more_columns(self):
        for name in ("sixteen", "fifteen", "d29", "twotwotwotwo"):
            group = GROUPS[name]
            order = some_order(len(group), 9)
            other = shuffled(group, 9)
            frame = framed(other, table_of(other))
            self.assertTrue(self.ask(FRAMES[name], frame, way(group, order)))
            self.assertIs(is_match(FRAMES[name], frame, way(group, order)[:-1]), False)

    def test_any_plain_thing(self):
        for thing in plain_things():
            for one, other in (("one", "one"), ("two", "two"), ("s3", "s3 shuffled"), ("two", "three")):
                self.assertFalse(self.ask(FRAMES[one], FRAMES[other], thing))

    def test_nothing_hangs_on_what_was_asked_before(self):
        for case in range(3):
            self.assertIs(is_match(FRAMES["four"], FRAMES["four"], (0, 3, 2, 1)), True)
            self.assertIs(is_match(FRAMES["four"], FRAMES["four"], (0, 2, 1, 3)), False)
            self.assertIs(is_match(FRAMES["four"], FRAMES["twos"], (0, 3, 2, 1)), False)


if __name__ == "__main__":
    unittest.main()
