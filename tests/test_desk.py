"""A desk: groups by names, asked by rows of text."""

import functools
import random
import re
import unittest

from classtab.desk import Desk
from classtab.errors import NoLines, NoName, NoPerm, NoRow, TooMany
from classtab.frames import is_match
from classtab.showing import down, sort_of
from classtab.tables import table_of
from tests.helper import (
    by_perms, cyclic, facts, few_classes, framed, kept_by_hand, naive_lines, naive_match, naive_read, naive_shown,
    on_all, pairs_of, refused, shuffled, table_groups, ten_columns, told, twisted,
)

GROUPS = {name: group for name, group in table_groups().items() if len(group) <= 24}
GROUPS.update(ten_columns())
A5 = "1,2,0,3,4 0,1,3,4,2"
S4 = "1,0,2,3 1,2,3,0"
S3 = "1,0,2 1,2,0"
S3_LINES = "table 6 1 3 2; row 1 -1 1; row 1 1 1; row 2 0 -1"
NUMBER = "(?:0|[1-9][0-9]?)"
NAME = "([a-z]{1,8})"
FORMS = {
    "perms": f"perms {NAME}((?: {NUMBER}(?:,{NUMBER})*)+)", "put": f"put {NAME} {NAME} {NAME}",
    "apart": f"apart {NAME} {NAME}", "check": f"check {NAME} (.*)",
}
for bare in ("drop", "count", "round", "classes", "table", "kept", "centre", "down"):
    FORMS[bare] = f"{bare} {NAME}"
for numbered in ("class", "row", "sort"):
    FORMS[numbered] = f"{numbered} {NAME} ({NUMBER})"


def row_of(name, group):
    """The row by which a group of at most 24 things is made, its things in their own order."""
    return f"perms {name} " + " ".join(",".join(str(x) for x in perm) for perm in on_all(group))


@functools.lru_cache(maxsize=None)
def table_by(group):
    return table_of(group)


@functools.lru_cache(maxsize=None)
def kept_count(group):
    return len(kept_by_hand(group))


def alike(one, other):
    """Of the groups that the tests of refusals use, alike are those in two orders, and the eights."""
    return facts(one).n == facts(other).n and sorted(facts(one).sizes) == sorted(facts(other).sizes)


def wrong_line(text):
    """The number of the first line that can't stand where it does; None where all can."""
    lines = text.split("; ")
    head = re.fullmatch("table ([1-9]|[1-5][0-9]|60)((?: (?:[1-9]|[1-5][0-9]|60)){1,16})", lines[0])
    if not head:
        return 0
    for k, line in enumerate(lines[1:], start=1):
        words = line.split(" ")
        if words[0] != "row" or len(words) - 1 != head[2].count(" "):
            return k
        if any(naive_read(int(head[1]), word) is None for word in words[1:]):
            return k
    return None if len(lines) > 1 else 1


def answer(groups, row):
    """What the words of point 80 and the interface tell: a text, or an error's class and its fields.

    Of rows that change a desk, groups is changed. What apart tells is "alike" or "unlike" alone.
    """
    word = row.split(" ")[0]
    form = re.fullmatch(FORMS[word], row, re.DOTALL) if word in FORMS else None
    if not form:
        return (NoRow, {})
    names = {"perms": (), "put": form.groups()[1:], "apart": form.groups()}.get(word, form.groups()[:1])
    for name in names:
        if name not in groups:
            return (NoName, {"name": name})
    asked = [groups[name] for name in names]
    most = {"row": 16, "sort": 16, "table": 16, "kept": 16, "down": 16, "check": 16, "apart": 10}.get(word, 60)
    if any(len(facts(group).classes) > most for group in asked):
        return (TooMany, {})
    if word == "perms":
        return made(groups, form)
    if word == "put":
        if len(asked[0]) * len(asked[1]) > 60:
            return (TooMany, {})
        groups[form[1]] = pairs_of(*asked)
        return str(len(groups[form[1]]))
    if word == "drop":
        groups.pop(form[1])
        return "ok"
    if word == "apart":
        return "alike" if alike(*asked) else "unlike"
    return answer_on(word, asked[0], form)


def made(groups, form):
    perms = [tuple(int(x) for x in word.split(",")) for word in form[2].split()]
    for k, perm in enumerate(perms):
        if sorted(perm) != list(range(len(perm))) or len(perm) > 24 or len(perm) != len(perms[0]):
            return (NoPerm, {"number": k})
    found = {tuple(range(len(perms[0])))}
    while len(found) <= 60:
        more = found | {tuple(one[place] for place in perm) for one in found for perm in perms}
        if more == found:
            groups[form[1]] = by_perms(sorted(found))
            return str(len(found))
        found = more
    return (TooMany, {})


def answer_on(word, group, form):
    known = facts(group)
    if word in ("count", "round", "classes", "centre"):
        return {"count": str(len(group)), "round": str(known.n), "classes": " ".join(map(str, known.sizes)),
                "centre": str(known.sizes.count(1))}[word]
    if word in ("class", "row", "sort"):
        k = int(form[2])
        if k >= (len(group) if word == "class" else len(known.classes)):
            return (NoRow, {})
        if word == "class":
            return str(known.numbers[k])
        row = table_by(group)[k]
        return " ".join(map(naive_shown, row)) if word == "row" else str(sort_of(group, row))
    if word == "kept":
        return str(kept_count(group))
    if word == "down":
        return str(len(down(group, table_by(group))))
    if word == "table":
        return "; ".join(naive_lines(framed(group, table_by(group))))
    return checked(group, form[2])


def checked(group, text):
    wrong = wrong_line(text)
    if wrong is not None:
        return (NoLines, {"row": wrong})
    lines = text.split("; ")
    want = naive_lines(framed(group, table_by(group)))
    return "ok" if lines[0] == want[0] and sorted(lines[1:]) == sorted(want[1:]) else "no"


class Asked(unittest.TestCase):
    """Desks beside what the words tell."""

    def say(self, desk, groups, row):
        want = answer(groups, row)
        if isinstance(want, str):
            got = desk.say(row)
            self.assertIs(type(got), str)
            self.assertEqual(got.split(" ")[0] if row.startswith("apart ") else got, want, row)
        else:
            refused(self, want[0], want[1], desk.say, row)
        return want

    def no(self, desk, words, error, **fields):
        refused(self, error, fields, desk.say, words)


class Rows(Asked):
    def test_each_group(self):
        for name, group in GROUPS.items():
            desk, groups = Desk(), {}
            told(self, desk.say(row_of("a", group)), str(len(group)))
            groups["a"] = group
            rows = [f"{word} a" for word in ("count", "round", "classes", "table", "kept", "centre", "down")]
            rows.extend(f"class a {k}" for k in range(len(group)))
            rows.extend(f"{word} a {k}" for word in ("row", "sort") for k in range(len(facts(group).classes)))
            for row in rows:
                self.assertIsInstance(self.say(desk, groups, row), str, row)
            told(self, desk.say("check a " + desk.say("table a")), "ok")

    def test_known(self):
        desk = Desk()
        for row, want in (
                (f"perms s {S3}", "6"), ("count s", "6"), ("round s", "6"), ("classes s", "1 3 2"), ("class s 0", "0"),
                ("class s 5", "1"), ("class s 4", "2"), ("row s 0", "1 -1 1"), ("row s 2", "2 0 -1"), ("sort s 2", "1"),
                ("table s", S3_LINES), ("kept s", "3"), ("centre s", "1"), ("down s", "3"),
                ("apart s s", "alike 0 1 2"), (f"check s {S3_LINES}", "ok"), ("perms t 1,2,0", "3"),
                ("row t 0", "1 -1-z z"), ("sort t 0", "0"), ("apart s t", "unlike"), ("put u t t", "9"),
                ("classes u", "1 1 1 1 1 1 1 1 1"), ("kept u", "6"), ("put s s t", "18"), ("count s", "18"),
                ("drop t", "ok"), ("count u", "9"), ("perms u 0", "1"), ("table u", "table 1 1; row 1"),
                ("row u 0", "1"), ("kept u", "1"), (f"perms v {A5}", "60"), ("kept v", "2"), ("down v", "60"),
                ("round v", "30"), (f"perms w {S4}", "24"), ("down w", "12"), ("sort w 4", "1"),
                ("perms abcdefgh 1,0", "2"), ("count abcdefgh", "2")):
            told(self, desk.say(row), want)

    def test_sorts(self):
        desk = Desk()
        desk.say(row_of("q", GROUPS["q8"]))
        told(self, [desk.say(f"sort q {k}") for k in range(5)], ["1", "1", "1", "1", "-1"])
        desk.say("perms q 1,2,0")
        told(self, [desk.say(f"sort q {k}") for k in range(3)], ["0", "0", "1"])

    def test_perms(self):
        desk, groups = Desk(), {}
        for row in ("perms a 0", "perms a 1,0", "perms a 0 0", "perms a 1,0 0,1 1,0", f"perms a {S4}", f"perms a {A5}",
                    "perms a " + ",".join(map(str, range(24))), "perms a " + ",".join(map(str, [*range(1, 24), 0])),
                    "perms a " + ",".join(map(str, reversed(range(24))))):
            self.assertIsInstance(self.say(desk, groups, row), str)
            self.assertIsInstance(self.say(desk, groups, "classes a"), str)
        for row, k in (("perms a 1", 0), ("perms a 0,0", 0), ("perms a 1,0 0", 1), ("perms a 0 1,0", 1),
                       ("perms a 1,2", 0), ("perms a 1,0 0,1 0,99", 2), ("perms a 60", 0),
                       ("perms a 0,1,2 2,1,0 1,0,2,3 5", 2), ("perms a " + ",".join(map(str, range(25))), 0),
                       ("perms a 1,0,2,3,4 1,2,3,4,0 0,1", 2)):
            self.no(desk, row, NoPerm, number=k)
            self.say(desk, groups, row)
            self.say(desk, groups, "classes a")
        for row in ("perms a 1,0,2,3,4 1,2,3,4,0", "perms b 1,2,3,4,5,6,0,8,9,10,11,12,13,14,15,7"):
            self.no(desk, row, TooMany)
            self.say(desk, groups, row)
        self.no(desk, "count b", NoName, name="b")
        told(self, desk.say("count a"), "2")

    def test_a_name_told_anew(self):
        desk = Desk()
        desk.say("perms a 1,0")
        told(self, desk.say("perms a 1,2,0"), "3")
        told(self, desk.say("count a"), "3")
        told(self, desk.say("put a a a"), "9")
        told(self, desk.say("round a"), "3")
        desk.say(f"perms b {S3}")
        told(self, desk.say("put b a b"), "54")
        told(self, desk.say("count a"), "9")
        told(self, desk.say("perms a 0"), "1")
        told(self, desk.say("put a b a"), "54")

    def test_put(self):
        desk, groups = Desk(), {}
        for row in ("perms a 1,0", "perms b 1,2,0", f"perms c {S3}", "put d a b", "put e b c", "put f c e", "put c c a",
                    "put g d d", "put h c d", "put h h a", "put a a a", "put f f f", "put b b b", "put x a q",
                    "put x q a", "put x q r", "put a b a", "put k a a", "put k q a"):
            self.say(desk, groups, row)
            for name in "abcdefghkx":
                self.say(desk, groups, f"count {name}")
                self.say(desk, groups, f"class {name} 1")
                self.say(desk, groups, f"classes {name}")

    def test_put_of_sixty_and_more(self):
        desk = Desk()
        desk.say(f"perms a {A5}")
        desk.say("perms b 0")
        desk.say("perms c 1,0")
        told(self, desk.say("put d a b"), "60")
        told(self, desk.say("put d b a"), "60")
        told(self, desk.say("classes d"), desk.say("classes a"))
        self.no(desk, "put d a c", TooMany)
        self.no(desk, "put c c a", TooMany)
        self.no(desk, "put n c a", TooMany)
        told(self, [desk.say("count d"), desk.say("count c")], ["60", "2"])
        self.no(desk, "count n", NoName, name="n")

    def test_drop(self):
        desk = Desk()
        self.no(desk, "drop a", NoName, name="a")
        desk.say("perms a 1,0")
        desk.say("perms b 1,2,0")
        told(self, desk.say("drop a"), "ok")
        for row in ("drop a", "count a", "row a 0", "table a", "apart a b", "apart b a", "put c a b", "put c b a"):
            self.no(desk, row, NoName, name="a")
        told(self, desk.say("count b"), "3")
        told(self, desk.say("perms a 0"), "1")
        told(self, desk.say("count a"), "1")


class Refusals(Asked):
    def test_no_row_ahead_of_all_else(self):
        desk, groups = Desk(), {}
        for row in ("perms s " + S3, "perms sixty " + A5, "perms many 1,2,3,4,5,6,7,8,9,10,11,12,13,14,15,16,17,0"):
            self.say(desk, groups, row)
        words = [word for word in FORMS if word not in ("perms", "check")]
        rows = ["", " ", "  ", "x", "counts s", "Count s", "COUNT s", "count", "count ", "count  s", " count s",
                "count s ", "count s s", "count S", "count s1", "count s_", "count sixtysixt", "count -", "count 1",
                "perms", "perms s", "perms s ", "perms 1,0", "perms s 1,0 ", "perms s  1,0", "perms s ,", "perms s 1,",
                "perms s ,1", "perms s 1,,0", "perms s 01,0", "perms s 1,00", "perms s 1,0,100", "perms s 1,0;",
                "perms s 1 ,0", "perms s -1,0", "perms s 1.0", "perms s a", "perms s 1,0 x", "perms S 1,0",
                "perms ninechars 1,0", "perms s +1,0", "perms s 1,0 2,0,01", "class s", "class s 00", "class s 05",
                "class s 005", "class s 100", "class s -1", "class s +1", "class s 1 2", "class s x", "class s 1.0",
                "class 1 s", "row s 01", "row s 000", "sort s 123", "row nine 012", "sort q -0", "put s s", "put s",
                "put s s s s", "put s s S", "put 1 s s", "put s  s s", "apart s", "apart s s s", "apart", "check",
                "check s", "check S x", "check  s", "check  s x", "check ninechars x", "check s1 x", "check 1 x",
                "checks s x", "drop", "drop s s", "table s 0", "kept s 1", "centre", "down s ", "count\ts",
                "count s\n", "\n", "count s\ncount s", "round s 1", "classes s 0", "classes", "s", "row s 1 ", "row s",
                "perms check", "Perms s 0", "perms s 1,0 100,0", "row s 1a", "count \"s\"", "count abcdefghi",
                "perms abcdefghi 1,0", "quit", "help"]
        rows.extend(word for word in words)
        rows.extend(f"{word} " for word in words)
        rows.extend(f"{word} s s s s s" for word in words)
        rows.extend(f" {word} s" for word in words)
        for row in rows:
            self.no(desk, row, NoRow)
            self.assertEqual(answer(groups, row), (NoRow, {}), row)
        self.assertEqual([desk.say("count s"), desk.say("count many")], ["6", "18"])

    def test_no_row_ahead_of_no_name(self):
        desk = Desk()
        for row in ("class q 00", "class q 100", "row q", "put a q", "put a q r s", "apart q", "check q", "count q q",
                "sort q 07"):
            self.no(desk, row, NoRow)
        for row in ("class q 0", "class q 99", "row q 99", "sort q 0", "table q", "kept q", "centre q", "down q",
                    "check q ", "check q none", "count q", "round q", "classes q", "drop q", "apart q q", "put q q q"):
            self.no(desk, row, NoName, name="q")

    def test_the_first_name(self):
        desk = Desk()
        desk.say("perms a 1,0")
        for row, name in (("put x y z", "y"), ("put x a z", "z"), ("put x y a", "y"), ("put a x y", "x"), ("apart x y",
                          "x"), ("apart a y", "y"), ("apart x a", "x"), ("put z z a", "z"), ("put z a z", "z")):
            self.no(desk, row, NoName, name=name)

    def test_too_many_classes(self):
        desk, groups = Desk(), {}
        for row in ("perms b 1,2,3,4,5,6,7,8,9,10,11,12,13,14,15,16,0", "perms a 1,2,3,4,5,6,7,8,9,10,11,12,13,14,15,0",
                    "perms k 1,2,3,4,5,6,7,8,9,10,0", "perms j 1,2,3,4,5,6,7,8,9,0", "perms s " + S3, "perms v " + A5):
            self.assertIsInstance(self.say(desk, groups, row), str)
        for row in ("row b 0", "row b 16", "row b 17", "row b 99", "sort b 0", "sort b 99", "table b", "kept b",
                    "down b", "check b ", "check b none", "check b " + S3_LINES, "apart b b", "apart b s", "apart s b",
                    "apart a s", "apart s a", "apart k s", "apart s k", "apart k k", "apart k b"):
            self.no(desk, row, TooMany)
            self.assertEqual(self.say(desk, groups, row), (TooMany, {}))
        for row in ("count b", "round b", "classes b", "class b 16", "centre b", "row a 15", "sort a 0", "kept a",
                    "table a", "down a", "check a " + S3_LINES, "apart j j", "apart j s", "apart v s", "row k 10",
                    "centre k"):
            self.assertNotEqual(self.say(desk, groups, row), (TooMany, {}))
        self.no(desk, "apart q b", NoName, name="q")
        self.no(desk, "apart b q", NoName, name="q")

    def test_no_such_thing_or_row(self):
        desk = Desk()
        desk.say(f"perms s {S3}")
        desk.say("perms b 1,2,3,4,5,6,7,8,9,10,11,12,13,14,15,16,0")
        for row in ("class s 6", "class s 60", "class s 99", "row s 3", "row s 6", "row s 99", "sort s 3", "sort s 99",
                    "class b 17"):
            self.no(desk, row, NoRow)
        told(self, [desk.say("class s 5"), desk.say("row s 2"), desk.say("sort s 2"), desk.say("class b 16")],
             ["1", "2 0 -1", "1", "16"])
        self.no(desk, "row b 17", TooMany)

    def test_what_is_refused_changes_nothing(self):
        desk, groups = Desk(), {}
        for row in ("perms a 1,2,0", f"perms b {S3}", f"perms c {A5}", "put d a b"):
            self.say(desk, groups, row)
        looks = ["count c", "classes c"]
        looks.extend(f"{word} {name}" for word in ("count", "classes", "table") for name in "abd")
        before = [desk.say(row) for row in looks]
        for row in ("perms a 1,0 x", "perms a 1,1", "perms b 1,0,2,3,4 1,2,3,4,0", "put a c b", "put b d d",
                    "put c c c", "put a q b", "drop q", "drop a b", "put n q b", "perms n 1,1", "perms n",
                    "check a none", "class a 50", "apart d q", "put n d d", "row d 99",
                    "check d " + S3_LINES.replace("2 0 -1", "2 0")):
            want = answer(groups, row)
            self.assertNotIsInstance(want, str, row)
            self.no(desk, row, want[0], **want[1])
            self.assertEqual([desk.say(look) for look in looks], before)
            self.no(desk, "count n", NoName, name="n")

    def test_rows_near_right_ones(self):
        chance = random.Random(190)
        desk, groups = Desk(), {}
        right = ["perms a 1,0", f"perms b {S3}", "perms c 1,2,0", "put d a c", "put a a a", "drop c", "count a",
                 "round b", "class b 4", "classes d", "row b 2", "sort b 0", "table b", "kept d", "centre b", "down b",
                 "apart a b", "apart b b", f"check b {S3_LINES}", "check b ",
                 "perms e 1,2,3,4,5,6,7,8,9,10,11,12,13,14,15,16,17,0", "row e 2"]
        met = {}
        for case in range(3000):
            row = chance.choice(right)
            if chance.randrange(3):
                k = chance.randrange(len(row))
                row = chance.choice([
                    row[:k] + row[k + 1:], row[:k] + chance.choice("abcde 0129,;-") + row[k:],
                    row[:k] + row[k] + row[k:], row[:k] + chance.choice("abcde 0129,;-") + row[k + 1:]])
            want = self.say(desk, groups, row)
            kind = "answer" if isinstance(want, str) else want[0].__name__
            met[kind] = met.get(kind, 0) + 1
        for kind in ("answer", "NoRow", "NoName", "TooMany", "NoPerm", "NoLines"):
            self.assertGreater(met.get(kind, 0), 5, kind)


class Apart(Asked):
    def ask(self, one, other, want):
        desk = Desk()
        desk.say(row_of("a", one))
        desk.say(row_of("b", other))
        got = desk.say("apart a b")
        if want:
            word, *columns = got.split(" ")
            match = tuple(int(column) for column in columns)
            self.assertEqual(got, "alike " + " ".join(map(str, match)))
            frames = framed(one, table_by(one)), framed(other, table_by(other))
            self.assertTrue(naive_match(*frames, match))
            self.assertIs(is_match(*frames, match), True)
        else:
            told(self, got, "unlike")

    def test_groups(self):
        names = [name for name in few_classes() if name in GROUPS and len(facts(GROUPS[name]).classes) <= 10]
        for name in names:
            self.ask(GROUPS[name], shuffled(GROUPS[name], 5), True)
        self.ask(GROUPS["d4"], GROUPS["q8"], True)
        self.ask(GROUPS["d4two"], GROUPS["q8two"], True)
        self.ask(GROUPS["d4two"], GROUPS["fourfour"], False)
        self.ask(GROUPS["twosfour"], GROUPS["d4four"], False)
        self.ask(GROUPS["q16"], GROUPS["sd16"], False)
        self.ask(GROUPS["dic3"], GROUPS["d6"], False)
        self.ask(GROUPS["four"], GROUPS["twos"], False)
        self.ask(GROUPS["one"], GROUPS["two"], False)


class Check(Asked):
    def setUp(self):
        self.desk = Desk()
        self.desk.say(f"perms s {S3}")
        self.desk.say("perms c 1,2,3,0")

    def test_rows_in_any_order(self):
        chance = random.Random(191)
        for name, group in GROUPS.items():
            if len(facts(group).classes) <= 12:
                desk = Desk()
                desk.say(row_of("a", group))
                lines = naive_lines(framed(group, table_by(group)))
                rest = lines[1:]
                chance.shuffle(rest)
                told(self, desk.say("check a " + "; ".join(lines[:1] + rest)), "ok")
                told(self, desk.say("check a " + desk.say("table a")), "ok")
                if len(rest) > 1:
                    told(self, desk.say("check a " + "; ".join(lines[:1] + rest[1:])), "no")
                    told(self, desk.say("check a " + "; ".join(lines[:1] + rest[1:] + rest[-1:])), "no")
                told(self, desk.say("check a " + "; ".join(lines + rest[-1:])), "no")

    def test_no(self):
        for lines in (
                "table 12 1 3 2; row 1 -1 1; row 1 1 1; row 2 0 -1", "table 6 1 2 3; row 1 -1 1; row 1 1 1; row 2 0 -1",
                "table 6 1 3 3; row 1 -1 1; row 1 1 1; row 2 0 -1", "table 6 1 3 2; row 1 1 1; row 1 1 1; row 2 0 -1",
                "table 6 1 3 2; row 1 -1 1; row 1 1 1", "table 6 1 3 2; row 1 1 1",
                "table 6 1 3 2; row 1 -1 1; row 1 1 1; row 2 0 1", S3_LINES + "; row 1 1 1",
                "table 6 1 3; row 1 -1; row 1 1; row 2 0", "table 6 1 3 2; row 0 0 0; row 0 0 0; row 0 0 0",
                "table 6 1 3 2; row 1 -1 1; row 1 1 1; row 2 0 -z", "table 3 1 3 2; row 1 -1 1; row 1 1 1; row 2 0 -1",
                "table 4 1 1 1 1; row 1 -1 1 -1; row 1 -z -1 z; row 1 z -1 -z; row 1 1 1 1", "table 1 1; row 1",
                "table 6 1 3 2 1; row 1 -1 1 1; row 1 1 1 1; row 2 0 -1 1"):
            told(self, self.desk.say("check s " + lines), "no")
        head = "check c table 4 1 1 1 1; row 1 -1 1 -1; "
        told(self, self.desk.say(head + "row 1 -z -1 z; row 1 z -1 -z; row 1 1 1 1"), "ok")
        told(self, self.desk.say(head + "row 1 -1 -1 1; row 1 1 -1 -1; row 1 1 1 1"), "no")
        told(self, self.desk.say("check c " + S3_LINES), "no")

    def test_no_lines(self):
        for lines, k in (
                ("", 0), (" ", 0), ("; ", 0), ("none", 0), ("table", 0), ("table 6 1 3 2", 1), ("table 6 1 3 2; ", 1),
                ("table 6 1 3 2;", 0), (S3_LINES + "; ", 4), (S3_LINES + ";", 3), ("; " + S3_LINES, 0),
                (" " + S3_LINES, 0), (S3_LINES + " ", 3), (S3_LINES.replace("; ", ";"), 0),
                (S3_LINES.replace("; ", "  "), 0), (S3_LINES.replace("; ", "\n"), 0),
                (S3_LINES.replace("; ", ";  "), 1), (S3_LINES.replace("; ", " ; "), 0),
                (S3_LINES.replace("2 0 -1", "2 0 -1 1"), 3), (S3_LINES.replace("1 -1 1", "1 -1"), 1),
                (S3_LINES.replace("row 1 1 1", "row 1 1 1z"), 2), (S3_LINES.replace("6", "61"), 0),
                (S3_LINES + "; " + S3_LINES, 4), (S3_LINES.replace("3", "0"), 0), ("table 12 1 3 2; row 1 1 z9", 1),
                ("table 4 1 1; row 1 1; row 1", 2)):
            self.no(self.desk, "check s " + lines, NoLines, row=k)
            self.assertEqual(wrong_line(lines), k)

    def test_where_no_blank_stands(self):
        self.no(self.desk, "check s", NoRow)
        self.no(self.desk, "check q", NoRow)
        self.no(self.desk, "check", NoRow)
        self.no(self.desk, "check ", NoRow)
        self.no(self.desk, "check s ", NoLines, row=0)
        self.no(self.desk, "check q ", NoName, name="q")

    def test_greater_groups(self):
        desk = Desk()
        desk.say(f"perms v {A5}")
        group = by_perms([(1, 2, 0, 3, 4), (0, 1, 3, 4, 2)])
        lines = desk.say("table v").split("; ")
        told(self, desk.say("check v " + "; ".join(lines)), "ok")
        told(self, desk.say("check v " + "; ".join(lines[:1] + lines[:0:-1])), "ok")
        self.assertEqual(lines, naive_lines(framed(group, table_by(group))))


class TwoDesks(Asked):
    def test_by_turns(self):
        chance = random.Random(192)
        both = [(Desk(), {}), (Desk(), {})]
        rows = ["perms a 1,0", "perms a 1,2,0", f"perms b {S3}", "perms b 1,2,3,0", "put c a b", "put a a a", "drop a",
                "drop c", "count a", "classes b", "row b 0", "table c", "apart a b", "class c 1", "kept a",
                "check b " + S3_LINES]
        for case in range(400):
            self.say(*both[chance.randrange(2)], chance.choice(rows))
        one, other = Desk(), Desk()
        one.say("perms a 1,0")
        self.no(other, "count a", NoName, name="a")
        other.say("perms a 1,2,0")
        told(self, [one.say("count a"), other.say("count a")], ["2", "3"])
        one.say("drop a")
        told(self, other.say("count a"), "3")

    def test_nothing_but_its_own_deeds(self):
        first = Desk()
        for row in (f"perms s {S3}", "table s", "kept s", "drop s", f"perms s {S4}"):
            first.say(row)
        later = Desk()
        later.say(f"perms s {S4}")
        for row in ("table s", "kept s", "row s 1", "classes s"):
            told(self, first.say(row), later.say(row))

    def test_groups_of_other_tests(self):
        desk = Desk()
        told(self, desk.say(row_of("q", twisted(4, 2, 3, 2))), "8")
        told(self, desk.say("classes q"), "1 2 2 2 1")
        told(self, desk.say(row_of("c", cyclic(24))), "24")
        self.no(desk, "table c", TooMany)


if __name__ == "__main__":
    unittest.main()
