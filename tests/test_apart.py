"""Two frames told apart: a match, or a case that shows that there is none."""

import itertools
import unittest

from classtab.apart import told_apart
from classtab.apartchecker import lets_apart
from classtab.frames import is_match
from classtab.tables import table_of
from tests.helper import (
    cases_in, cases_within, cyclic, facts, framed, in_order, naive_match, naive_shows, pairs_of, some_order, told,
    table_groups, ten_columns, untouched, with_orders,
)

GROUPS = table_groups()
GROUPS.update(with_orders(ten_columns()))
GROUPS.update(with_orders({
    "five": cyclic(5), "seven": cyclic(7), "nine": cyclic(9), "ten": cyclic(10),
    "threes": pairs_of(cyclic(3), cyclic(3)), "fourtwo": pairs_of(cyclic(4), cyclic(2)),
    "twotwotwo": pairs_of(cyclic(2), pairs_of(cyclic(2), cyclic(2))),
}))
FRAMES = {name: framed(group, table_of(group)) for name, group in GROUPS.items()}
FEW = [name for name in FRAMES if len(FRAMES[name][1]) <= 10]
LIKE = [("q16", "sd16"), ("sd16", "d8"), ("d4two", "fourfour"), ("q8two", "twosfour"), ("d4four", "d4two"),
        ("d4four", "q8two"), ("d4four", "fourfour"), ("twosfour", "d4four")]


def like_ahead(one, other):
    return one[0] == other[0] and sorted(one[1]) == sorted(other[1])


def any_laying(one, other):
    """Whether one of all layings, gone through one by one, is a match; those of unlike sizes are left out."""
    if not like_ahead(one, other):
        return False
    columns = [[d for d, size in enumerate(other[1]) if size == other_size] for other_size in one[1]]
    return any(
        naive_match(one, other, (0,) + rest) for rest in itertools.product(*columns[1:])
        if len(set(rest)) == len(rest) and 0 not in rest)


class ToldApart(unittest.TestCase):
    def ask(self, one, other):
        """What is told is right by hand, and let by; told is the word."""
        got = untouched(self, told_apart, one, other)
        self.assertIs(type(got), tuple)
        self.assertEqual(len(got), 2)
        self.assertIs(lets_apart(one, other, got), True)
        if got[0] == "alike":
            self.assertTrue(naive_match(one, other, got[1]))
            self.assertIs(is_match(one, other, got[1]), True)
        else:
            self.assertEqual(got[0], "unlike")
            self.assertTrue(naive_shows(one, other, got[1]))
            self.assertLessEqual(cases_within(got[1]), 12)
            self.assertLessEqual(cases_in(got[1]), 4000)
        return got[0]

    def both(self, one, other):
        """The same word the other way about."""
        word = self.ask(FRAMES[one], FRAMES[other])
        self.assertEqual(self.ask(FRAMES[other], FRAMES[one]), word)
        return word

    def test_one_group_in_two_orders(self):
        for name, group in GROUPS.items():
            self.assertEqual(self.ask(FRAMES[name], FRAMES[name]), "alike", name)
            for seed in (300, 301):
                other = in_order(group, some_order(len(group), seed))
                self.assertEqual(self.ask(FRAMES[name], framed(other, table_of(other))), "alike", name)

    def test_the_square_and_the_quaternions(self):
        for one in ("d4", "d4 shuffled"):
            for other in ("q8", "q8 shuffled"):
                self.assertEqual(self.both(one, other), "alike")

    def test_other_groups_with_the_same_table(self):
        for one, other in (("q16", "d8"), ("d4two", "q8two"), ("fourfour", "twosfour")):
            for pair in itertools.product((one, one + " shuffled"), (other, other + " shuffled")):
                self.assertEqual(self.both(*pair), "alike", pair)

    def test_unlike_ahead_of_the_rows(self):
        seen = set()
        for one, other in itertools.combinations(FEW, 2):
            if not like_ahead(FRAMES[one], FRAMES[other]):
                got = told_apart(FRAMES[one], FRAMES[other])
                self.assertEqual(got[0], "unlike")
                self.assertTrue(naive_shows(FRAMES[one], FRAMES[other], got[1]), (one, other))
                m, n = len(FRAMES[one][1]), len(FRAMES[other][1])
                seen.add((FRAMES[one][0] == FRAMES[other][0], m == n, sum(FRAMES[one][1]) == sum(FRAMES[other][1])))
        self.assertTrue({(False, True, True), (True, False, False), (True, True, False)} <= seen)
        for one, other in (
                ("twos", "four"), ("s3", "six"), ("six", "d6"), ("dic3", "d6"), ("one", "two"), ("nine", "threes")):
            self.assertEqual(self.both(one, other), "unlike")

    def test_like_sizes_but_unlike_tables(self):
        kinds = set()
        for one, other in LIKE:
            self.assertTrue(like_ahead(FRAMES[one], FRAMES[other]), (one, other))
            for pair in itertools.product((one, one + " shuffled"), (other, other + " shuffled")):
                self.assertEqual(self.both(*pair), "unlike", pair)
                kinds.add(len(FRAMES[one][1]))
        self.assertEqual(kinds, {7, 10})

    def test_all_that_are_alike_ahead(self):
        met = set()
        for one, other in itertools.combinations(FEW, 2):
            if like_ahead(FRAMES[one], FRAMES[other]):
                met.add(self.both(one, other))
        self.assertEqual(met, {"alike", "unlike"})

    def test_all_layings(self):
        cases = 0
        names = [name for name in FEW if len(FRAMES[name][1]) <= 7]
        for one, other in itertools.product(names, names):
            if like_ahead(FRAMES[one], FRAMES[other]):
                want = "alike" if any_laying(FRAMES[one], FRAMES[other]) else "unlike"
                self.assertEqual(self.ask(FRAMES[one], FRAMES[other]), want, (one, other))
                cases += 1
        self.assertGreater(cases, 80)

    def test_somewhat_more_columns(self):
        for one, other in (("d29", "d29 shuffled"), ("sixteen", "sixteen shuffled"), ("m27", "m27 shuffled"),
                           ("twotwotwotwo", "twotwotwotwo shuffled"), ("fours", "fours shuffled")):
            self.assertEqual(self.both(one, other), "alike")
        self.assertEqual(self.both("fours", "sixteen"), "unlike")
        self.assertEqual(self.both("fours", "twotwotwotwo"), "unlike")

    def test_known(self):
        told(self, told_apart(FRAMES["one"], FRAMES["one"]), ("alike", (0,)))
        told(self, told_apart(FRAMES["two"], FRAMES["two"]), ("alike", (0, 1)))
        told(self, told_apart(FRAMES["s3"], FRAMES["s3"]), ("alike", (0, 1, 2)))
        # Where the classes of both orders stand otherwise, one match alone can be told.
        group = GROUPS["s3"]
        other = in_order(group, [0, 3, 4, 1, 2, 5])
        self.assertEqual(facts(other).sizes, (1, 2, 3))
        told(self, told_apart(FRAMES["s3"], framed(other, table_of(other))), ("alike", (0, 2, 1)))

    def test_nothing_hangs_on_what_was_asked_before(self):
        for again in range(2):
            for one, other in LIKE[:3] + [("d4", "q8"), ("s3", "six")]:
                self.assertEqual(self.ask(FRAMES[one], FRAMES[other]), "alike" if one == "d4" else "unlike")


if __name__ == "__main__":
    unittest.main()
