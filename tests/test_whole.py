"""The whole: the interface, and what the parts of the program tell of one group agrees."""

import importlib
import inspect
import random
import unittest

from classtab.apart import told_apart
from classtab.apartchecker import lets_apart
from classtab.classes import class_numbers, classes_of, counts_of, powers_of, sizes_of
from classtab.deeds import beside, is_deed, on_pairs, on_sides, on_twos, own_deed, pieces, traces, turning_deed
from classtab.desk import Desk
from classtab.errors import TableError
from classtab.exact import divided, flipped, less, narrowed, plus, times, turned, whole, whole_of, widened
from classtab.frames import frame_of, is_match
from classtab.groups import ask_group, full_round, round_of
from classtab.making import made_by, renamed, together
from classtab.moving import lifted, restricted
from classtab.numbertexts import read_number, shown_number
from classtab.parts import inside, is_kept, is_part, over, part_by, sides
from classtab.pure import is_pure
from classtab.sharechecker import lets_shares
from classtab.shares import put_by, share_paper, shares_of
from classtab.showing import centre, counts_by, down, kernel, kept_parts, roots_of, sort_of
from classtab.spreads import meeting, spread_flipped, spread_scaled, spread_times, widened_spread
from classtab.tablechecker import lets_table
from classtab.tables import table_of
from classtab.tabletexts import read_table, shown_table
from classtab.tabletogether import raised, table_together
from tests.helper import few_classes, some_order, some_parts, table_groups, ten_columns, told, with_orders

GROUPS = with_orders(few_classes())
GROUPS.update(with_orders(ten_columns()))
TABLES = {name: table_of(group) for name, group in GROUPS.items()}
QUICK = [name for name in GROUPS if len(TABLES[name]) <= 9 and len(GROUPS[name]) <= 24]
INTERFACE = {
    "exact": "places 1, number_of 2, whole 2, is_number 2, plus 2, less 2, scaled 2, times 3, flipped 2, turned 3, "
             "widened 3, narrowed 3, divided 2, whole_of 1",
    "groups": "ask_group 1, back 2, power 3, round_of 2, full_round 1",
    "perms": "is_perm 1, perm_times 2",
    "making": "made_by 1, together 2, renamed 2",
    "classes": "classes_of 1, class_numbers 1, sizes_of 1, powers_of 2, counts_of 1",
    "parts": "is_part 2, part_by 2, kept_by 2, is_kept 2, sides 2, inside 2, classes_in 2, over 2",
    "spreads": "is_spread 3, spread_plus 2, spread_times 3, spread_flipped 2, spread_scaled 2, widened_spread 3, "
               "meeting 4",
    "pure": "is_pure 2",
    "tables": "table_of 1",
    "tablechecker": "lets_table 2",
    "deeds": "is_deed 2, traces 2, pieces 2, on_sides 2, own_deed 1, turning_deed 1, beside 2, on_pairs 2, on_twos 1",
    "shares": "shares_of 3, put_by 2, share_paper 3",
    "sharechecker": "lets_shares 3",
    "moving": "restricted 3, lifted 3",
    "tabletogether": "table_together 4, raised 3",
    "showing": "kernel 3, kept_parts 2, centre 1, down 2, sort_of 2, roots_of 2, counts_by 3",
    "frames": "frame_of 2, is_match 3",
    "apart": "told_apart 2",
    "apartchecker": "lets_apart 3",
    "numbertexts": "shown_number 1, read_number 2",
    "tabletexts": "shown_table 1, read_table 1",
}


def fit_number(n, number, m):
    """The number of n as one of m, n dividing m or the other way about."""
    return widened(n, number, m) if m % n == 0 else narrowed(n, number, m)


class Interface(unittest.TestCase):
    def test_names_and_arguments(self):
        for name, row in INTERFACE.items():
            module = importlib.import_module("classtab." + name)
            for entry in row.split(", "):
                told_name, count = entry.split(" ")
                found = inspect.signature(getattr(module, told_name)).parameters
                self.assertEqual(len(found), int(count), (name, told_name))
                self.assertEqual(getattr(module, told_name).__module__, "classtab." + name)
        self.assertEqual(len(inspect.signature(Desk).parameters), 0)
        self.assertEqual(len(inspect.signature(Desk().say).parameters), 1)


class OneGroup(unittest.TestCase):
    def test_table(self):
        for name, group in GROUPS.items():
            n, sizes, table = full_round(group), sizes_of(group), TABLES[name]
            self.assertIs(lets_table(group, table), True)
            self.assertEqual(sum(whole_of(row[0]) ** 2 for row in table), len(group))
            for row in table:
                self.assertIs(is_pure(group, row), True)
                self.assertIn(spread_flipped(n, row), table)
                # Turned by any k, each row is a row: that of the powers k.
                for k in (5, 7, 11, 59):
                    if all(k * a % n != 0 for a in range(1, n)):
                        powers = powers_of(group, k)
                        self.assertEqual(tuple(turned(n, x, k) for x in row), tuple(row[c] for c in powers))
            for i, size in enumerate(sizes):
                total = whole(n, 0)
                for row in table:
                    total = plus(total, times(n, row[i], flipped(n, row[i])))
                self.assertEqual(total, whole(n, len(group) // size))

    def test_rows_are_upright(self):
        for name in QUICK:
            group, n = GROUPS[name], full_round(GROUPS[name])
            for i, one in enumerate(TABLES[name]):
                for j, other in enumerate(TABLES[name]):
                    self.assertEqual(meeting(group, n, one, other), whole(n, len(group) if i == j else 0))

    def test_by_sizes_and_table_alone(self):
        for name, group in GROUPS.items():
            table, classes = TABLES[name], classes_of(group)
            counts = counts_by(full_round(group), sizes_of(group), table)
            told(self, counts, counts_of(group))
            # Kept parts are the unions of classes whose products stay within, by the counts alone.
            for part in kept_parts(group, table):
                self.assertIs(is_part(group, part) and is_kept(group, part), True)
                within = [c for c, members in enumerate(classes) if members[0] in part]
                for i in within:
                    for j in within:
                        self.assertEqual([k for k, often in enumerate(counts[i][j]) if often and k not in within], [])
            squares = powers_of(group, 2)
            roots = roots_of(group, table)
            for c, members in enumerate(classes):
                into = sum(len(classes[d]) for d, square in enumerate(squares) if square == c)
                self.assertEqual(roots[c] * len(members), into)

    def test_deeds_and_shares(self):
        for name in QUICK:
            group, table, n = GROUPS[name], TABLES[name], full_round(GROUPS[name])
            ones = table.index((whole(n, 1),) * len(table))
            deeds = [on_sides(group, part) for part in some_parts(group)] + [own_deed(group), turning_deed(group)]
            small = [deed for deed in deeds if len(deed[0]) <= 4]
            deeds.extend(beside(one, other) for one in small for other in small[-2:])
            deeds.extend(on_pairs(one, other) for one in small for other in small[:2])
            deeds.extend(on_twos(deed) for deed in small if len(deed[0]) > 1)
            for deed in deeds:
                self.assertIs(is_deed(group, deed), True)
                spread = traces(group, deed)
                shares = shares_of(group, table, spread)
                self.assertGreaterEqual(min(shares), 0)
                self.assertEqual(shares[ones], len(pieces(group, deed)))
                told(self, put_by(table, shares), spread)
                paper = share_paper(group, table, spread)
                self.assertEqual(paper, tuple((row, k) for row, k in zip(table, shares) if k))
                self.assertIs(lets_shares(group, spread, paper), True)
            # Of the group's own deed each row has as many shares as its first number tells.
            self.assertEqual(
                shares_of(group, table, traces(group, own_deed(group))), tuple(whole_of(row[0]) for row in table))

    def test_restricted_and_lifted(self):
        for name in QUICK:
            group, table, n = GROUPS[name], TABLES[name], full_round(GROUPS[name])
            for part in some_parts(group)[:5]:
                own = inside(group, part)
                m, lower = full_round(own), table_of(own)
                down_shares = []
                for row in table:
                    narrow = tuple(fit_number(n, x, m) for x in restricted(group, part, row))
                    down_shares.append(shares_of(own, lower, narrow))
                    self.assertEqual(put_by(lower, down_shares[-1]), narrow)
                for k, row in enumerate(lower):
                    spread = lifted(group, part, widened_spread(m, row, n))
                    # The same sums both ways: shares of a lifted row are those of the restricted ones.
                    want = tuple(shares[k] for shares in down_shares)
                    told(self, shares_of(group, table, spread), want)
                    for j, other in enumerate(table):
                        both = meeting(group, n, spread, other)
                        self.assertEqual(both, whole(n, want[j] * len(group)))

    def test_parts(self):
        for name in QUICK:
            group, table, n = GROUPS[name], TABLES[name], full_round(GROUPS[name])
            kernels = [kernel(group, table, k) for k in range(len(table))]
            for part in kept_parts(group, table):
                upper = over(group, part)
                self.assertIs(ask_group(upper), True)
                wide = [widened_spread(full_round(upper), row, n) for row in table_of(upper)]
                want = [row for row, things in zip(table, kernels) if set(part) <= set(things)]
                self.assertEqual(sorted(raised(group, part, row) for row in wide), want)
                if all(upper[a][b] == upper[b][a] for a in range(len(upper)) for b in range(len(upper))):
                    self.assertLessEqual(set(down(group, table)), set(part))
            linear = [row for row in table if whole_of(row[0]) == 1]
            self.assertEqual(len(linear) * len(down(group, table)), len(group))
            self.assertIn(down(group, table), kept_parts(group, table))
            self.assertIn(centre(group), kept_parts(group, table))

    def test_products_of_rows(self):
        for name in QUICK:
            group, table, n = GROUPS[name], TABLES[name], full_round(GROUPS[name])
            for one in table:
                for other in table[-2:]:
                    product = spread_times(n, one, other)
                    shares = shares_of(group, table, product)
                    self.assertGreaterEqual(min(shares), 0)
                    self.assertIs(lets_shares(group, product, share_paper(group, table, product)), True)
                # The product with itself falls into two halves, by the row at the squares; both have shares.
                square = spread_times(n, one, one)
                at_squares = tuple(one[c] for c in powers_of(group, 2))
                for half in (tuple(map(plus, square, at_squares)), tuple(map(less, square, at_squares))):
                    halves = tuple(divided(number, 2) for number in half)
                    self.assertGreaterEqual(min(shares_of(group, table, halves)), 0)

    def test_texts(self):
        for name, group in GROUPS.items():
            frame = frame_of(group, TABLES[name])
            lines = shown_table(frame)
            told(self, read_table(lines), frame)
            for row in TABLES[name]:
                for number in row:
                    told(self, read_number(frame[0], shown_number(number)), number)
            self.assertIs(lets_table(group, read_table(lines[:1] + lines[:0:-1])[2]), True)


class Renamed(unittest.TestCase):
    def test_all_goes_along(self):
        for name, group in GROUPS.items():
            table = TABLES[name]
            order = tuple(some_order(len(group), 400))
            other = renamed(group, order)
            goes = {a: k for k, a in enumerate(order)}
            match = tuple(class_numbers(other)[goes[members[0]]] for members in classes_of(group))
            frames = frame_of(group, table), frame_of(other, table_of(other))
            self.assertIs(is_match(*frames, match), True)
            self.assertIs(lets_apart(*frames, ("alike", match)), True)
            self.assertEqual(told_apart(*frames)[0], "alike")
            self.assertEqual(full_round(other), full_round(group))
            self.assertEqual([round_of(other, goes[a]) for a in range(len(group))],
                             [round_of(group, a) for a in range(len(group))])
            new = frames[1][2]
            self.assertEqual(kept_parts(other, new), sorted(
                tuple(sorted(goes[a] for a in part)) for part in kept_parts(group, table)))
            self.assertEqual(centre(other), tuple(sorted(goes[a] for a in centre(group))))
            self.assertEqual(down(other, new), tuple(sorted(goes[a] for a in down(group, table))))
            self.assertEqual([roots_of(other, new)[d] for d in match], list(roots_of(group, table)))
            self.assertEqual(sorted(sort_of(other, row) for row in new), sorted(sort_of(group, row) for row in table))

    def test_spreads_go_along(self):
        for name in QUICK:
            group, table = GROUPS[name], TABLES[name]
            order = tuple(some_order(len(group), 401))
            other = renamed(group, order)
            new = table_of(other)
            for part in some_parts(group)[:4]:
                there = part_by(other, [order.index(a) for a in part])
                self.assertEqual(sorted(order[k] for k in there), list(part))
                self.assertEqual(len(sides(other, there)), len(sides(group, part)))
                shares = shares_of(group, table, traces(group, on_sides(group, part)))
                moved = shares_of(other, new, traces(other, on_sides(other, there)))
                self.assertEqual(sorted(shares), sorted(moved))


class PutTogether(unittest.TestCase):
    PAIRS = [("s3", "two"), ("two", "s3 shuffled"), ("s3 shuffled", "s3"), ("q8", "three"), ("d4 shuffled", "two"),
             ("a4", "four"), ("three", "f20 shuffled"), ("twos", "s3"), ("one", "a5"), ("s4", "two"), ("two", "q8")]

    def test_all_goes_along(self):
        for one, other in self.PAIRS:
            first, second = GROUPS[one], GROUPS[other]
            both, count = together(first, second), len(second)
            tables = TABLES[one], TABLES[other]
            table = table_together(first, second, *tables)
            told(self, table, table_of(both))
            self.assertIs(lets_table(both, table), True)

            def pairs(ours, theirs):
                return tuple(a * count + b for a in ours for b in theirs)

            self.assertEqual(centre(both), pairs(centre(first), centre(second)))
            self.assertEqual(down(both, table), pairs(down(first, tables[0]), down(second, tables[1])))
            parts = kept_parts(both, table)
            for ours in kept_parts(first, tables[0]):
                for theirs in kept_parts(second, tables[1]):
                    self.assertIn(pairs(ours, theirs), parts)
            sorts = sorted(sort_of(first, row) * sort_of(second, col) for row in tables[0] for col in tables[1])
            self.assertEqual(sorted(sort_of(both, row) for row in table), sorts)
            roots = roots_of(both, table)
            for c, members in enumerate(classes_of(both)):
                a, b = divmod(members[0], count)
                ours = roots_of(first, tables[0])[class_numbers(first)[a]]
                self.assertEqual(roots[c], ours * roots_of(second, tables[1])[class_numbers(second)[b]])
            told(self, counts_by(*frame_of(both, table)), counts_of(both))

    def test_the_other_way_about(self):
        for one, other in self.PAIRS:
            first, second = GROUPS[one], GROUPS[other]
            frames = []
            for left, right in ((first, second), (second, first)):
                both = together(left, right)
                frames.append(frame_of(both, table_together(left, right, table_of(left), table_of(right))))
            got = told_apart(*frames)
            self.assertEqual(got[0], "alike")
            self.assertIs(lets_apart(*frames, got), True)


class OneDesk(unittest.TestCase):
    def test_beside_the_modules(self):
        for name in QUICK:
            group, table = GROUPS[name], TABLES[name]
            desk = Desk()
            row = "perms g " + " ".join(",".join(map(str, perm)) for perm in own_deed(group))
            self.assertEqual(desk.say(row), str(len(group)))
            self.assertEqual(made_by(list(own_deed(group)))[0], group)
            frame = frame_of(group, table)
            self.assertEqual(read_table(desk.say("table g").split("; ")), frame)
            self.assertEqual(desk.say("kept g"), str(len(kept_parts(group, table))))
            self.assertEqual(desk.say("down g"), str(len(down(group, table))))
            self.assertEqual(desk.say("centre g"), str(len(centre(group))))
            self.assertEqual(desk.say("check g " + "; ".join(shown_table(frame))), "ok")
            word, *columns = desk.say("apart g g").split(" ")
            self.assertIs(lets_apart(frame, frame, (word, tuple(map(int, columns)))), True)
            if 2 * len(group) <= 60:
                desk.say("perms two 1,0")
                desk.say("put g g two")
                both = together(group, ((0, 1), (1, 0)))
                if len(classes_of(both)) <= 16:
                    self.assertEqual(read_table(desk.say("table g").split("; ")), frame_of(both, table_of(both)))


class AskedBefore(unittest.TestCase):
    def test_in_any_order(self):
        chance = random.Random(200)
        asks = []
        for name in chance.sample(QUICK, 8):
            group, table = GROUPS[name], TABLES[name]
            frame = frame_of(group, table)
            asks.extend([
                (table_of, group), (counts_of, group), (kept_parts, group, table), (roots_of, group, table),
                (counts_by, *frame), (told_apart, frame, frame), (shown_table, frame), (read_table, shown_table(frame)),
                (lets_table, group, table), (down, group, table), (own_deed, group), (is_match, frame, frame, None),
                (share_paper, group, table, spread_scaled(table[0], 3)), (table_together, group, group, table, table),
                (read_number, 5, "z+1"), (lets_apart, frame, frame, ("unlike", ("unlike",))), (read_table, []),
            ])
        first = [self.answer(*ask) for ask in asks]
        for again in range(2):
            order = list(range(len(asks)))
            chance.shuffle(order)
            for k in order:
                self.assertEqual(self.answer(*asks[k]), first[k])

    def answer(self, ask, *things):
        """What is told, as a text, or the refusal with its fields; a told list is spoilt behind that."""
        try:
            got = ask(*things)
        except TableError as error:
            return (error.__class__, vars(error))
        shown = repr(got)
        if isinstance(got, list):
            got.clear()
        return shown

    def test_what_was_told_may_be_handed_in_again(self):
        for name, group in table_groups().items():
            table = table_of(group)
            frame = read_table(shown_table(frame_of(group, table)))
            self.assertEqual(told_apart(frame, frame)[0], "alike")
            self.assertEqual(table_together(group, ((0,),), frame[2], (((1,),),)), table)


if __name__ == "__main__":
    unittest.main()
