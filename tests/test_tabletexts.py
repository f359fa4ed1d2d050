"""Tables as lines: what is shown is read back, and the first line that can't stand where it does is told."""

import random
import unittest

from classtab.errors import NoLines
from classtab.frames import frame_of
from classtab.tables import table_of
from classtab.tabletexts import read_table, shown_table
from tests.helper import (
    cyclic, facts, framed, naive_lines, naive_read, refused, some_number, symmetric, table_groups, ten_columns, told,
    twisted, untouched, with_orders,
)

GROUPS = table_groups()
GROUPS.update(with_orders(ten_columns()))
FRAMES = {name: framed(group, table_of(group)) for name, group in GROUPS.items()}
GREAT = 10 ** 20 - 1
S3 = ["table 6 1 3 2", "row 1 -1 1", "row 1 1 1", "row 2 0 -1"]


def first_wrong(lines):
    """The number of the first line that can't stand where it does, or how many there are where one lacks."""
    sixty = [str(k) for k in range(1, 61)]
    for k, line in enumerate(lines):
        words = line.split(" ")
        if k == 0:
            if words[0] != "table" or len(words) not in range(3, 19) or any(word not in sixty for word in words[1:]):
                return 0
            n, count = int(words[1]), len(words) - 2
        elif words[0] != "row" or len(words) != count + 1 or any(naive_read(n, word) is None for word in words[1:]):
            return k
    return len(lines) if len(lines) < 2 else None


def some_tuple(chance):
    """Of the form of a frame, but none."""
    n = chance.randint(1, 60)
    sizes = tuple(chance.randint(1, 60) for k in range(chance.choice((1, 2, 5, 16))))
    most = chance.choice((1, 30, GREAT))
    rows = chance.choice((1, 2, len(sizes), 20))
    return (n, sizes, tuple(tuple(some_number(n, chance, most) for size in sizes) for row in range(rows)))


def bent(lines, chance):
    """Lines of which one is left out, twice, another one, or has a word or a sign more or fewer."""
    k = chance.randrange(len(lines))
    words = lines[k].split(" ")
    w = chance.randrange(len(words))
    i = chance.randrange(len(lines[k]) + 1)
    line = chance.choice([
        " ".join(words[:w] + words[w + 1:]), " ".join(words[:w] + words[w:w + 1] + words[w:]), lines[k] + " ",
        " " + lines[k], lines[k].replace(" ", "  ", 1), lines[k][:i] + chance.choice("0123456789z+- ") + lines[k][i:],
        lines[k][:i] + lines[k][i + 1:], " ".join(words[:w] + ["0"] + words[w + 1:]), "", "row", "table",
        lines[k].upper(), " ".join(words[:w] + ["61"] + words[w + 1:]), " ".join(words[:w] + ["07"] + words[w + 1:]),
        lines[0], lines[-1], " ".join(words[:w] + ["z9"] + words[w + 1:]),
        " ".join(words[:w] + ["+1"] + words[w + 1:]), lines[k] + "\n", " ".join(words[:w] + ["1z"] + words[w + 1:]),
        " ".join(words[:w] + ["1"] + words[w + 1:]), lines[k] + " 1",
    ])
    return chance.choice([
        lines[:k] + [line] + lines[k + 1:], lines[:k] + [line] + lines[k + 1:], lines[:k] + lines[k + 1:],
        lines[:k] + lines[k:k + 1] + lines[k:], lines[:k], lines[::-1], lines[:k] + [line] + lines[k:],
    ])


class Shown(unittest.TestCase):
    def test_frames(self):
        counts = set()
        for name, frame in FRAMES.items():
            lines = untouched(self, shown_table, frame)
            told(self, lines, naive_lines(frame))
            told(self, shown_table(frame_of(GROUPS[name], frame[2])), lines)
            told(self, untouched(self, read_table, lines), frame)
            counts.add(len(GROUPS[name]))
        self.assertEqual((min(counts), max(counts)), (1, 60))

    def test_known(self):
        told(self, shown_table((1, (1,), (((1,),),))), ["table 1 1", "row 1"])
        told(self, shown_table(framed(symmetric(3), table_of(symmetric(3)))), S3)
        told(self, shown_table(framed(cyclic(4), table_of(cyclic(4)))), [
            "table 4 1 1 1 1", "row 1 -1 1 -1", "row 1 -z -1 z", "row 1 z -1 -z", "row 1 1 1 1"])
        told(self, shown_table(framed(cyclic(3), table_of(cyclic(3)))), [
            "table 3 1 1 1", "row 1 -1-z z", "row 1 z -1-z", "row 1 1 1"])
        self.assertEqual(shown_table(framed(twisted(4, 2, 3), table_of(twisted(4, 2, 3))))[0], "table 4 1 2 2 2 1")

    def test_the_list_is_the_askers_own(self):
        frame = FRAMES["s3"]
        first = shown_table(frame)
        first.clear()
        later = shown_table(frame)
        told(self, later, S3)
        later[0] = "no line"
        told(self, shown_table(frame), S3)

    def test_somewhat_more_columns(self):
        frame = framed(cyclic(20), tuple([((1,) + (0,) * 7,) * 20] * 2))
        told(self, shown_table(frame), naive_lines(frame))
        refused(self, NoLines, {"row": 0}, read_table, shown_table(frame))


class Read(unittest.TestCase):
    def no(self, lines, row):
        refused(self, NoLines, {"row": row}, read_table, lines)

    def test_tuples_that_are_no_frame(self):
        chance = random.Random(180)
        for case in range(150):
            thing = some_tuple(chance)
            lines = naive_lines(thing)
            told(self, shown_table(thing), lines)
            told(self, untouched(self, read_table, lines), thing)

    def test_known(self):
        told(self, read_table(["table 1 1", "row 0"]), (1, (1,), (((0,),),)))
        told(self, read_table(["table 60 60", "row -z15"]), (60, (60,), (((0,) * 15 + (-1,),),)))
        told(self, read_table(["table 4 7 9", "row 1+z 0", "row 1+z 0", "row -5 2z"]), (
            4, (7, 9), (((1, 1), (0, 0)), ((1, 1), (0, 0)), ((-5, 0), (0, 2)))))
        self.assertEqual(len(read_table(["table 5" + " 60" * 16] + ["row" + " z" * 16] * 79)[2]), 79)

    def test_one_lacks(self):
        self.no([], 0)
        self.no(["table 6 1 3 2"], 1)
        self.no(["table 1 1"], 1)
        self.no(["row 1"], 0)
        self.no([""], 0)

    def test_first_lines(self):
        rest = S3[1:]
        for line in (
                "", " ", "table", "table ", "table 6", "table 6 ", " table 6 1 3 2", "table  6 1 3 2", "table 6 1 3 2 ",
                "table 6  1 3 2", "Table 6 1 3 2", "tables 6 1 3 2", "6 1 3 2", "row 1 1 1", "table 0 1 3 2",
                "table 61 1 3 2", "table 06 1 3 2", "table -6 1 3 2", "table +6 1 3 2", "table 6 0 3 2",
                "table 6 1 61 2", "table 6 1 03 2", "table 6 1 3 00", "table 6 1 3 -2", "table 6 1 3 z",
                "table 6 1,3,2", "table 6 1 3 2;", "table z 1 3 2", "table 6.0 1 3 2", "table six 1 3 2",
                "table 6 1 3 2\n", "table\t6 1 3 2", "table 6" + " 1" * 17, "table 6" + " 1" * 100, "table 600 1 3 2",
                "table " + "9" * 900 + " 1 3 2", "table 6 1 3 " + "9" * 900, "table 100 1 3 2", "table 6 1 100 2",
                "table 1_0 1 3 2"):
            self.no([line] + rest, 0)
            self.no([line], 0)
            self.no([line] + ["none"], 0)

    def test_sixteen_sizes_and_sixty(self):
        told(self, read_table(["table 1" + " 1" * 16, "row" + " 1" * 16])[1], (1,) * 16)
        self.no(["table 1" + " 1" * 17, "row" + " 1" * 17], 0)
        told(self, read_table(["table 60 60 1", "row 1 1"])[:2], (60, (60, 1)))
        self.no(["table 61 60 1", "row 1 1"], 0)
        self.no(["table 60 61 1", "row 1 1"], 0)

    def test_rows(self):
        for k in range(1, 4):
            for line in (
                    "", " ", "row", "row ", "row 1", "row 1 1", "row 1 1 1 1", "row 1 1 1 ", " row 1 1 1", "row  1 1 1",
                    "row 1  1 1", "row 1 1  1", "Row 1 1 1", "rows 1 1 1", "1 1 1", "table 6 1 3 2", "row 1 1 z2",
                    "row 1 1 z3", "row 1 1 +1", "row 1 1 01", "row 1 1 1z", "row 1 1 z+1", "row 1 1 -0", "row 1 1 --1",
                    "row 1 1 x", "row 1,1,1", "row 1 1 1;", "row 1 1 1\n", "row 1 1 1.0", "row 1 1 1+z+z2",
                    "row 1 1 0z", "row z z z1", "row\t1 1 1", "row 1 1 None", "row None None None",
                    "row 1 1 " + "0" * 900):
                lines = S3[:k] + [line] + S3[k + 1:]
                self.no(lines, k)
                self.no(lines + ["none", ""], k)
                self.no(S3[:k] + [line] + S3[k:], k)

    def test_the_first_of_several(self):
        self.no(["table 6 1 3 2", "row 1 1 1", "row 1 1", "row 1", "", "row 1 1 1"], 2)
        self.no(["table 6 1 3 2", "", "row 1 1", ""], 1)
        self.no(["table 0 1 3 2", "", "row 1 1", ""], 0)
        self.no(S3 + [""], 4)
        self.no(S3 + S3, 4)

    def test_bent_lines(self):
        chance = random.Random(181)
        met = set()
        for name, frame in FRAMES.items():
            if len(frame[1]) <= 10:
                for again in range(15):
                    lines = naive_lines(frame)
                    for step in range(chance.choice((1, 1, 2))):
                        lines = bent(lines, chance) or ["row"]
                    want = first_wrong(lines)
                    met.add(want)
                    if want is None:
                        got = untouched(self, read_table, lines)
                        self.assertEqual(naive_lines(got), lines)
                        self.assertEqual([type(thing) for thing in got], [int, tuple, tuple])
                        self.assertEqual(shown_table(got), lines)
                    else:
                        self.no(lines, want)
        self.assertTrue({None, 0, 1, 2, 3, 4, 5} <= met)

    def test_lists_handed_in_may_be_changed_later(self):
        lines = list(S3)
        got = read_table(lines)
        lines[0] = "none"
        lines.clear()
        told(self, got, framed(symmetric(3), table_of(symmetric(3))))
        self.assertEqual(facts(symmetric(3)).sizes, got[1])


if __name__ == "__main__":
    unittest.main()
