"""The small checker of answers on two frames: what it lets by is so; else the word of the first fault is told."""

import functools
import itertools
import random
import unittest

from classtab.apartchecker import lets_apart
from classtab.errors import NoAlike
from classtab.tables import table_of
from tests.helper import (
    cases_in, cases_within, cyclic, drawn_by, framed, naive_case, naive_match, naive_shows, pairs_of, plain_things,
    refused, table_groups, ten_columns, untouched, with_orders,
)

GROUPS = table_groups()
GROUPS.update(with_orders(ten_columns()))
GROUPS["nine"] = cyclic(9)
GROUPS["threes"] = pairs_of(cyclic(3), cyclic(3))
FRAMES = {name: framed(group, table_of(group)) for name, group in GROUPS.items()}
# Of each two n and the sizes are alike, the tables aren't.
LIKE_SIZES = [
    ("q16", "sd16"), ("sd16 shuffled", "q16"), ("sd16", "d8"), ("d8 shuffled", "sd16 shuffled"),
    ("d4two", "fourfour"), ("fourfour shuffled", "q8two"), ("d4four", "twosfour"), ("d4two shuffled", "d4four"),
]
# Of each two something is unlike ahead of all rows: n, how many columns, or the sizes.
UNLIKE = [
    ("four", "twos"), ("twos shuffled", "four"), ("dic3", "d6"), ("s3", "d4"), ("one", "two"), ("two", "one"),
    ("a4", "four"), ("d4", "f20"), ("eight", "q8"), ("nine", "threes"), ("threes", "nine"), ("six", "s3s3"),
    ("s4", "a5 shuffled"), ("q8two", "a4four"),
]
ALIKE = [("s3", "s3 shuffled"), ("d4", "q8"), ("q8 shuffled", "d4 shuffled"), ("a4 shuffled", "a4"), ("one", "one"),
         ("twos", "twos"), ("d4two", "q8two"), ("fourfour", "twosfour"), ("a5", "a5 shuffled"), ("q16", "d8")]


@functools.lru_cache(maxsize=None)
def shown_case(one, other):
    """A right case of two of LIKE_SIZES, by splits of the columns of one thing first."""
    frame = FRAMES[one]
    columns = sorted(range(1, len(frame[1])), key=lambda c: (frame[1][c], c))
    return naive_case(frame, FRAMES[other], columns)


@functools.lru_cache(maxsize=None)
def some_match(one, other):
    m = len(FRAMES[one][1])
    return next((
        (0,) + rest for rest in itertools.permutations(range(1, m)) if naive_match(
            FRAMES[one], FRAMES[other], (0,) + rest)), None)


def grown(columns, most, deep=9):
    """A tree of splits of just so many cases, of frames whose columns are all of one thing, each end an unlike.

    Ends are split as long as what is left allows it; what can't be reached by whole splits is told by None.
    """
    splits = []
    left = most - 1
    level, width = 1, 1
    while left and level <= deep and level < columns:
        fit = min(width, left // (columns - level))
        splits.append(fit)
        left -= fit * (columns - level)
        width, level = fit * (columns - level), level + 1
    return built(splits, 1, columns) if not left else None


def built(splits, level, columns):
    """Takes from splits, level by level, which ends are split."""
    if len(splits) < level or not splits[level - 1]:
        return ("unlike",)
    splits[level - 1] -= 1
    return ("split", level, tuple([built(splits, level + 1, columns) for k in range(columns - level)]))


def chain(columns, deep):
    """So many cases within one another, of frames whose columns are all of one thing."""
    case = ("unlike",)
    for level in range(deep - 1, 0, -1):
        case = ("split", level, (case,) + (("unlike",),) * (columns - level - 1))
    return case


def near(case, chance):
    """Things near a case, at any place within it."""
    if case[0] == "split" and case[2] and chance.randrange(4):
        k = chance.randrange(len(case[2]))
        return case[:2] + (case[2][:k] + (near(case[2][k], chance),) + case[2][k + 1:],)
    if case[0] == "split":
        cases = case[2]
        k = chance.randrange(len(cases)) if cases else 0
        mixed = list(cases)
        chance.shuffle(mixed)
        return chance.choice([
            case[:2] + (cases[:k] + cases[k + 1:],), case[:2] + (cases + cases[-1:],), case[:2] + (cases[::-1],),
            case[:2] + (tuple(mixed),), case[:2] + (list(cases),), case[:2], case + (None,), list(case),
            ("split", case[1] + 1, cases), ("split", 0, cases), ("split", -1, cases), ("split", True, cases),
            ("split", 99, cases), ("split", str(case[1]), cases), ("spilt",) + case[1:], case[::-1],
            ("split", case[1], ()), ("split", case[1], None), ("unlike",), ("rows", case[1]), None, cases, case[1],
            ("split", None, cases), ("split", (case[1],), cases), case[:2] + (cases + (("unlike",),),),
            ("Split",) + case[1:], case[:2] + (dict(enumerate(cases)),), case[1:],
        ])
    if case[0] == "rows":
        k = case[1]
        return chance.choice([
            ("rows", k + 1), ("rows", k - 1), ("rows", 0), ("rows", -1), ("rows", 99), ("rows", None), ("rows", True),
            ("rows", False), ("rows", (k,)), ("rows", str(k)), ("rows",), ("rows", k, k), ["rows", k], ("row", k),
            ("split", k, ()), ("unlike",), ("unlike", k), None, k, (), "rows", (("rows", k),), ("rows", 10 ** 39),
        ])
    return chance.choice([
        ("unlike", 0), ("unlike", None), ["unlike"], "unlike", ("alike",), (), ("Unlike",), ("unlike ",), None, True,
        ("rows", 0), ("split", 0, ()), ("split", 1, ()), (("unlike",),), {"unlike": 0}, ("unlike", "unlike"),
    ])


class LetsApart(unittest.TestCase):
    def no(self, one, other, thing, word):
        refused(self, NoAlike, {"word": word}, lets_apart, one, other, thing)

    def yes(self, one, other, thing):
        self.assertIs(untouched(self, lets_apart, one, other, thing), True)

    def ask_case(self, one, other, case):
        want = naive_shows(one, other, case) and cases_in(case) <= 4000 and cases_within(case) <= 12
        if want:
            self.yes(one, other, ("unlike", case))
        else:
            self.no(one, other, ("unlike", case), "case")
        return want

    def test_matches(self):
        for one, other in ALIKE:
            match = some_match(one, other)
            self.assertIsNotNone(match)
            self.yes(FRAMES[one], FRAMES[other], ("alike", match))
            m = len(match)
            wrong = [
                list(match), match[:-1], match + (m,), match[:-1] + (m,), match[:-1] + (-1,), None, 0, True, "alike",
                (), (match,), str(match), dict(enumerate(match)), (False,) + match[1:], match[:-1] + (None,),
                match + match,
            ]
            if m > 1:
                wrong.extend([match[:-1] + (0,), match[1:] + match[:1], (match[1], 0) + match[2:]])
            for thing in wrong:
                self.no(FRAMES[one], FRAMES[other], ("alike", thing), "match")

    def test_a_match_of_others(self):
        for one, other in LIKE_SIZES:
            for case in range(20):
                order = list(range(1, len(FRAMES[one][1])))
                random.Random(case).shuffle(order)
                self.no(FRAMES[one], FRAMES[other], ("alike", tuple([0] + order)), "match")
        for one, other in UNLIKE:
            self.no(FRAMES[one], FRAMES[other], ("alike", tuple(range(len(FRAMES[one][1])))), "match")
            self.no(FRAMES[one], FRAMES[other], ("alike", tuple(range(len(FRAMES[other][1])))), "match")

    def test_shapes(self):
        pairs = [(FRAMES["s3"], FRAMES["s3"], "alike", (0, 1, 2)), (FRAMES["s3"], FRAMES["d4"], "unlike", ("unlike",))]
        for one, other, word, rest in pairs:
            self.yes(one, other, (word, rest))
            for thing in ([word, rest], (word,), (word, rest, rest), (word, rest, None), (rest, word), rest, word, (),
                          [], {}, {word: rest}, None, True, 0, (word.upper(), rest), (word + " ", rest), ("", rest),
                          (None, rest), (True, rest), (0, rest), ((word,), rest), ([word], rest), ("match", rest),
                          ("like", rest), ("rows", 0), ("case", rest), ((word, rest),), [(word, rest)], "alike unlike",
                          ({}, rest), ("al", "unlike"), ("a", "b")):
                self.no(one, other, thing, "shape")

    def test_any_plain_thing(self):
        for thing in plain_things():
            for one, other in (("one", "one"), ("s3", "s3 shuffled"), ("four", "twos"), ("q16", "sd16")):
                self.no(FRAMES[one], FRAMES[other], thing, "shape")
                self.no(FRAMES[one], FRAMES[other], ("alike", thing), "match")
                self.no(FRAMES[one], FRAMES[other], ("unlike", thing), "case")

    def test_unlike(self):
        for one, other in UNLIKE:
            self.yes(FRAMES[one], FRAMES[other], ("unlike", ("unlike",)))
            self.yes(FRAMES[other], FRAMES[one], ("unlike", ("unlike",)))
        for one, other in ALIKE + LIKE_SIZES:
            self.no(FRAMES[one], FRAMES[other], ("unlike", ("unlike",)), "case")

    def test_which_of_the_three_is_unlike(self):
        sizes, rows = FRAMES["four"][1:]
        for one, other in (((4, sizes, rows), (8, sizes, rows)), ((4, (1, 1, 1, 2), rows), (4, sizes, rows)),
                           ((4, (1, 1, 1), rows), (4, sizes, rows)),
                           ((4, (1, 2, 1, 3), rows), (4, (1, 3, 1, 2, 1), rows))):
            self.yes(one, other, ("unlike", ("unlike",)))
        self.no((4, (1, 2, 1, 3), rows), (4, (1, 3, 1, 2), rows), ("unlike", ("unlike",)), "case")
        self.no((4, (1, 1, 2, 2), rows), (4, (1, 2, 1, 2), rows), ("unlike", ("unlike",)), "case")

    def test_rows(self):
        for one, other in UNLIKE + ALIKE + LIKE_SIZES:
            for k in range(-2, 18):
                self.ask_case(FRAMES[one], FRAMES[other], ("rows", k))
        # The rows of four begin with 1 all, those of the other one with 1, 1, 1 and 3.
        self.yes(FRAMES["four"], FRAMES["a4"], ("unlike", ("rows", 0)))
        self.yes(FRAMES["a4"], FRAMES["four"], ("unlike", ("rows", 3)))
        # Numbers are alike as tuples alone: 1 of 1 is no 1 of 4.
        self.yes(FRAMES["one"], FRAMES["four"], ("unlike", ("rows", 0)))
        # 1 of 4 and 1 of 6 are, and there are four and six of them.
        self.yes(FRAMES["four"], FRAMES["six"], ("unlike", ("rows", 3)))
        self.no(FRAMES["four"], FRAMES["s3"][:2] + (FRAMES["four"][2],), ("unlike", ("rows", 3)), "case")

    def test_splits_within_splits(self):
        kinds = set()
        for one, other in LIKE_SIZES:
            case = shown_case(one, other)
            self.yes(FRAMES[one], FRAMES[other], ("unlike", case))
            kinds.add(cases_within(case))
            self.assertTrue(naive_shows(FRAMES[one], FRAMES[other], case))
            self.no(FRAMES[one], FRAMES[one], ("unlike", case), "case")
        self.assertGreaterEqual(max(kinds), 3)

    def test_things_near_a_case(self):
        chance = random.Random(160)
        met = []
        for one, other in LIKE_SIZES:
            for again in range(250):
                met.append(self.ask_case(FRAMES[one], FRAMES[other], near(shown_case(one, other), chance)))
        for one, other in UNLIKE:
            for case in (("unlike",), chain(len(FRAMES[one][1]), 3)):
                for again in range(40):
                    met.append(self.ask_case(FRAMES[one], FRAMES[other], near(case, chance)))
        self.assertIn(True, met)
        self.assertIn(False, met)

    def test_cases_left_out_too_many_and_exchanged(self):
        one, other = FRAMES["nine"], FRAMES["threes"]
        leaf = ("unlike",)
        self.yes(one, other, ("unlike", ("split", 3, (leaf,) * 8)))
        for k in (0, 7, 9):
            self.no(one, other, ("unlike", ("split", 3, (leaf,) * k)), "case")
        inner = ("split", 8, (leaf,) * 7)
        self.yes(one, other, ("unlike", ("split", 3, (inner,) * 8)))
        self.no(one, other, ("unlike", ("split", 3, (inner,) * 7 + (("split", 3, (leaf,) * 7),))), "case")
        self.no(one, other, ("unlike", ("split", 3, (inner,) * 7 + (("split", 0, (leaf,) * 7),))), "case")
        self.no(one, other, ("unlike", ("split", 0, (leaf,) * 8)), "case")
        met = 0
        for first, second in LIKE_SIZES:
            case = shown_case(first, second)
            for i, j in itertools.combinations(range(len(case[2])), 2):
                cases = list(case[2])
                cases[i], cases[j] = cases[j], cases[i]
                met += not self.ask_case(FRAMES[first], FRAMES[second], ("split", case[1], tuple(cases)))
        self.assertGreater(met, 0)

    def test_a_column_without_any_of_its_size(self):
        self.yes(FRAMES["s3"], FRAMES["four"], ("unlike", ("split", 1, ())))
        self.yes(FRAMES["s3"], FRAMES["four"], ("unlike", ("split", 2, ())))
        self.no(FRAMES["s3"], FRAMES["four"], ("unlike", ("split", 3, ())), "case")
        self.no(FRAMES["s3"], FRAMES["four"], ("unlike", ("split", 0, ())), "case")
        self.no(FRAMES["s3"], FRAMES["s3"], ("unlike", ("split", 1, ())), "case")
        self.yes(FRAMES["two"], FRAMES["one"], ("unlike", ("split", 1, ())))
        self.no(FRAMES["one"], FRAMES["two"], ("unlike", ("split", 1, ())), "case")
        # All columns of the other one are paired: none is left.
        self.yes(FRAMES["three"], FRAMES["two"], ("unlike", ("split", 1, (("split", 2, ()),))))
        self.yes(FRAMES["three"], FRAMES["two"], ("unlike", ("split", 2, (("split", 1, ()),))))
        self.no(FRAMES["three"], FRAMES["two"], ("unlike", ("split", 2, (("split", 2, ()),))), "case")

    def test_twelve_within_one_another(self):
        one, other = FRAMES["sixteen"], FRAMES["fours"]
        for deep in range(1, 17):
            case = chain(16, deep)
            self.assertEqual(cases_within(case), deep)
            self.assertTrue(naive_shows(one, other, case))
            self.assertEqual(self.ask_case(one, other, case), deep <= 12)

    def test_twelve_with_a_split_without_cases(self):
        # Where all m columns of the other one are paired, a split of one more has no case.
        for m in range(2, 16):
            other = framed(cyclic(m), table_of(cyclic(m)))
            case = ("split", m, ())
            for level in range(m - 1, 0, -1):
                case = ("split", level, (case,) + (("unlike",),) * (m - level - 1))
            self.assertEqual(cases_within(case), m)
            self.assertTrue(naive_shows(FRAMES["sixteen"], other, case))
            self.assertEqual(self.ask_case(FRAMES["sixteen"], other, case), m <= 12)

    def test_just_four_thousand(self):
        for one, other in (("nine", "threes"), ("sixteen", "fours"), ("twotwotwotwo", "fours shuffled")):
            columns = len(FRAMES[one][1])
            met = []
            for most in range(3940, 4060):
                case = grown(columns, most)
                if case is not None:
                    self.assertEqual(cases_in(case), most)
                    met.append((most > 4000, self.ask_case(FRAMES[one], FRAMES[other], case)))
            self.assertEqual(set(met), {(False, True), (True, False)})
        case = grown(9, 4000)
        self.assertEqual(cases_in(case), 4000)
        self.yes(FRAMES["nine"], FRAMES["threes"], ("unlike", case))
        more = 4001
        while grown(9, more) is None:
            more += 1
        self.no(FRAMES["nine"], FRAMES["threes"], ("unlike", grown(9, more)), "case")

    def test_counted_as_often_as_they_stand(self):
        # One object at many places: it counts at each of them.
        one, other = FRAMES["nine"], FRAMES["threes"]
        case = ("unlike",)
        for level in (5, 4, 3, 2, 1):
            case = ("split", level, (case,) * (9 - level))
        self.assertGreater(cases_in(case), 4000)
        self.no(one, other, ("unlike", case), "case")
        self.yes(one, other, ("unlike", ("split", 8, tuple([("split", 7, (("unlike",),) * 7)] * 8))))
        case = ("unlike",)
        for level in range(15, 0, -1):
            case = ("split", level, (case,) * (16 - level))
        # Far too many to walk them all, or to show them.
        with self.assertRaises(NoAlike) as caught:
            lets_apart(FRAMES["sixteen"], FRAMES["fours"], ("unlike", case))
        self.assertEqual(caught.exception.word, "case")

    def test_no_case_beside_a_match(self):
        chance = random.Random(161)
        for one, other in ALIKE:
            self.yes(FRAMES[one], FRAMES[other], ("alike", some_match(one, other)))
            m = len(FRAMES[one][1])
            cases = [("unlike",)] + [("rows", k) for k in range(m)] + [chain(m, deep) for deep in range(1, m)]
            cases.extend(near(shown_case(*pair), chance) for pair in LIKE_SIZES)
            for c in range(1, m):
                fit = FRAMES[other][1].count(FRAMES[one][1][c]) - (FRAMES[one][1][c] == 1)
                cases.extend(("split", c, (("rows", k),) * fit) for k in range(m))
            for case in cases:
                self.no(FRAMES[one], FRAMES[other], ("unlike", case), "case")

    def test_no_match_beside_a_case(self):
        for one, other in (("four", "twos"), ("dic3", "d6"), ("q16", "sd16"), ("s3", "a4"), ("twos", "a4")):
            self.assertIsNone(some_match(one, other))
            m = len(FRAMES[one][1])
            for rest in itertools.permutations(range(1, m)):
                self.no(FRAMES[one], FRAMES[other], ("alike", (0,) + rest), "match")

    def test_nothing_is_sought(self):
        drawn = drawn_by("apartchecker")
        self.assertIn("'classtab.apartchecker'", drawn)
        for name in ("apart", "tables"):
            self.assertNotIn(f"'classtab.{name}'", drawn)

    def test_nothing_hangs_on_what_was_asked_before(self):
        for again in range(3):
            self.yes(FRAMES["s3"], FRAMES["s3"], ("alike", (0, 1, 2)))
            self.yes(FRAMES["nine"], FRAMES["threes"], ("unlike", grown(9, 4000)))
            self.no(FRAMES["s3"], FRAMES["s3"], ("unlike", ("unlike",)), "case")


if __name__ == "__main__":
    unittest.main()
