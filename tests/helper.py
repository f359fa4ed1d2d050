"""What several tests need: groups, NUMBERs and spreads by hand, and plain things of all kinds."""

import functools
import math
import pathlib
import random
import re
import subprocess
import sys


def cyclic(n):
    return tuple(tuple((a + b) % n for b in range(n)) for a in range(n))


def pairs_of(one, other):
    n = len(other)
    return tuple(
        tuple(one[a // n][b // n] * n + other[a % n][b % n] for b in range(len(one) * n))
        for a in range(len(one) * n)
    )


def twisted(m, k, r, lift=0):
    """Things x^i y^j (number i * k + j): x has round m, y x = x^r y, and y to the power k is x^lift."""
    def product(a, b):
        i, j = divmod(a, k)
        s, t = divmod(b, k)
        over = 1 if j + t >= k else 0
        return (i + s * r ** j + lift * over) % m * k + (j + t) % k

    return tuple(tuple(product(a, b) for b in range(m * k)) for a in range(m * k))


def goes(one, other):
    """Each place goes as the other one tells, then as the one tells."""
    return tuple(one[other[i]] for i in range(len(other)))


def all_perms(perms):
    """All perms that come of some, by multiplying all with all until nothing new comes."""
    found = {tuple(range(len(perms[0])))} | set(perms)
    while True:
        more = found | {goes(a, b) for a in found for b in found}
        if len(more) == len(found):
            return sorted(found)
        found = more


def by_perms(perms):
    found = all_perms(perms)
    return tuple(tuple(found.index(goes(a, b)) for b in found) for a in found)


def in_order(group, order):
    return tuple(tuple(order.index(group[a][b]) for b in order) for a in order)


def some_order(count, seed):
    rest = list(range(1, count))
    random.Random(seed).shuffle(rest)
    return [0] + rest


def shuffled(group, seed):
    return in_order(group, some_order(len(group), seed))


def alternating(m):
    turns = []
    for k in range(2, m):
        perm = list(range(m))
        perm[0], perm[1], perm[k] = 1, k, 0
        turns.append(tuple(perm))
    return by_perms(turns)


def symmetric(m):
    return by_perms([(1, 0) + tuple(range(2, m)), tuple(range(1, m)) + (0,)])


def on_vectors(q, makers):
    """The group made by two by two squares of numbers, by their rests by q, as perms of the pairs but (0, 0)."""
    places = [(x, y) for x in range(q) for y in range(q) if (x, y) != (0, 0)]
    return by_perms([
        tuple(places.index(((a * x + b * y) % q, (c * x + d * y) % q)) for x, y in places) for a, b, c, d in makers])


def few_classes():
    """Groups of 1 to 60 things with at most sixteen classes, by names."""
    found = {
        "one": cyclic(1), "two": cyclic(2), "three": cyclic(3), "four": cyclic(4),
        "twos": pairs_of(cyclic(2), cyclic(2)),
        "six": cyclic(6), "eight": cyclic(8), "twelve": cyclic(12), "sixteen": cyclic(16),
        "s3": symmetric(3), "d4": twisted(4, 2, 3), "q8": twisted(4, 2, 3, 2), "d5": twisted(5, 2, 4),
        "a4": alternating(4), "d6": twisted(6, 2, 5), "dic3": twisted(6, 2, 5, 3), "f20": twisted(5, 4, 2),
        "f21": twisted(7, 3, 2), "s4": symmetric(4), "f42": twisted(7, 6, 3), "f55": twisted(11, 5, 3),
        "f57": twisted(19, 3, 7), "d8": twisted(8, 2, 7), "s3s3": pairs_of(symmetric(3), symmetric(3)),
        "a4twos": pairs_of(alternating(4), cyclic(2)), "a5": alternating(5),
    }
    return found


def table_groups():
    """More groups of 1 to 60 things with at most sixteen classes, each also with its things in another order."""
    twos = pairs_of(cyclic(2), cyclic(2))
    q8 = twisted(4, 2, 3, 2)
    found = few_classes()
    found.update({
        "fifteen": cyclic(15), "thirteen": cyclic(13), "twotwotwotwo": pairs_of(twos, twos),
        "fours": pairs_of(cyclic(4), cyclic(4)), "q8two": pairs_of(q8, cyclic(2)), "q16": twisted(8, 2, 7, 4),
        "sd16": twisted(8, 2, 3), "d16": twisted(16, 2, 15), "m27": twisted(9, 3, 4), "d29": twisted(29, 2, 28),
        "dic13": twisted(26, 2, 25, 13), "f52": twisted(13, 4, 5), "f39": twisted(13, 3, 3),
        "a4four": pairs_of(alternating(4), cyclic(4)), "s4two": pairs_of(symmetric(4), cyclic(2)),
        "d5s3": pairs_of(twisted(5, 2, 4), symmetric(3)), "f20three": pairs_of(twisted(5, 4, 2), cyclic(3)),
        "sl23": on_vectors(3, [(1, 1, 0, 1), (1, 0, 1, 1)]),
        "gl23": on_vectors(3, [(1, 1, 0, 1), (1, 0, 1, 1), (2, 0, 0, 1)]),
        "f56": by_perms([(1, 0, 3, 2, 5, 4, 7, 6), (0, 2, 4, 6, 3, 1, 7, 5)]),
        "f36": by_perms([(3, 4, 5, 6, 7, 8, 0, 1, 2), (0, 3, 6, 2, 5, 8, 1, 4, 7)]),
    })
    return with_orders(found)


def ten_columns():
    """Groups with ten classes, four of them of one thing and six of two: three sorts of tables."""
    d4 = twisted(4, 2, 3)
    both = pairs_of(d4, cyclic(4))
    # Thing 4 of the eight of the square and 2 of the four are those that are their only squares but 0.
    return {
        "d4two": pairs_of(d4, cyclic(2)), "q8two": pairs_of(twisted(4, 2, 3, 2), cyclic(2)),
        "fourfour": twisted(4, 4, 3), "twosfour": by_perms([(1, 0, 2, 3, 4, 5, 6, 7), (2, 3, 0, 1, 5, 6, 7, 4)]),
        "d4four": over_by_hand(both, (0, 4 * 4 + 2)),
    }


def sample_groups():
    """Groups of 1 to 60 things, by names; each also with its things in another order."""
    found = few_classes()
    found.update({
        "fifteen": cyclic(15), "thirtyone": cyclic(31), "sixty": cyclic(60),
        "threes": pairs_of(cyclic(3), pairs_of(cyclic(3), cyclic(3))), "d30": twisted(30, 2, 29),
        "dic15": twisted(30, 2, 29, 15), "a4five": pairs_of(alternating(4), cyclic(5)),
        "q8seven": pairs_of(twisted(4, 2, 3, 2), cyclic(7)),
    })
    return with_orders(found)


def with_orders(groups):
    found = dict(groups)
    for seed, name in enumerate(groups):
        found[name + " shuffled"] = shuffled(groups[name], seed)
    return found


def plain_things():
    """Plain things of all kinds, none of them a group, a perm or a part."""
    deep = ()
    for k in range(35):
        deep = (deep,)
    return [
        None, True, False, 0, 1, -1, 10 ** 39, "", "0", "shape", [], {}, [0], [[0]], {0: 0}, {(0,): (0,)},
        (None,), (True,), (False,), ("0",), ([0],), ({},), ([],), ((),), deep, ((None,),), ((True,),), ((False,),),
        (("0",),), (([],),), (({},),), [(0,)], ((0, 1), [1, 0]), ([0, 1], (1, 0)), (0, None), (0, "1"), (0, True),
        (False, 1), (0, (1,)), (0, [1]), "01", ["0", "1"], {"a": [1, (2, {})]}, (10 ** 39,), (-1,),
    ]


def turn(group, b, t):
    return group[group[t][b]][group[t].index(0)]


def part_by_hand(group, things, kept):
    """All times of all with all, and where it is to be kept all turned by all, until nothing new comes."""
    found = {0} | set(things)
    while True:
        more = found | {group[a][b] for a in found for b in found}
        if kept:
            more = more | {turn(group, a, t) for a in found for t in range(len(group))}
        if more == found:
            return tuple(sorted(found))
        found = more


def some_parts(group):
    """Parts made by hand of at most two things: (0,), all things, kept ones and others."""
    found = {(0,), tuple(range(len(group)))}
    chance = random.Random(len(group))
    for case in range(8):
        found.add(part_by_hand(group, [chance.randrange(len(group)) for k in range(1 + case % 2)], False))
    return sorted(found)


def sides_by_hand(group, part):
    found = []
    for a in range(len(group)):
        side = tuple(sorted(group[a][h] for h in part))
        if side not in found:
            found.append(side)
    return tuple(found)


def over_by_hand(group, part):
    """The group of the sides of a kept part."""
    found = sides_by_hand(group, part)
    lies = {a: k for k, side in enumerate(found) for a in side}
    return tuple(tuple(lies[group[one[-1]][other[-1]]] for other in found) for one in found)


def kept_by_hand(group):
    """All kept parts: one more class to each, until nothing new comes."""
    found = {(0,)}
    while True:
        more = found | {part_by_hand(group, part + (a,), True) for part in found for a in range(len(group))}
        if more == found:
            return sorted(found)
        found = more


def inside_by_hand(group, part):
    return tuple(tuple(part.index(group[a][b]) for b in part) for a in part)


def naive_classes(group):
    found = []
    for b in range(len(group)):
        members = tuple(sorted({turn(group, b, t) for t in range(len(group))}))
        if members not in found:
            found.append(members)
    return tuple(found)


def naive_power(group, a, k):
    """Step by step, but for a k that is far away: rounds never pass 60, so steps of 60! change nothing."""
    far = 1
    for i in range(2, 61):
        far *= i
    row = [0]
    while len(row) < 2 or row[-1] != 0:
        row.append(group[row[-1]][a])
    return row[(k % far) % (len(row) - 1)]


def told(test, got, want):
    """The same, of the same kinds within, too: a list is no tuple, True is no 1."""
    test.assertEqual(got, want)
    test.assertEqual(repr(got), repr(want))


def untouched(test, ask, *things):
    """Ask, and look that nothing that was handed in has changed."""
    before = repr(things)
    try:
        return ask(*things)
    finally:
        test.assertEqual(repr(things), before)


def refused(test, error, fields, ask, *things):
    """Asked, it is refused with just this error, which keeps just these fields."""
    with test.assertRaises(error) as caught:
        untouched(test, ask, *things)
    test.assertIs(type(caught.exception), error)
    told(test, {name: getattr(caught.exception, name) for name in fields}, fields)


def drawn_by(name):
    """All modules of the package that stand ready when one alone has been imported by a fresh Python."""
    lines = f"import sys, classtab.{name}; print([key for key in sys.modules if key.startswith('classtab.')])"
    here = pathlib.Path(__file__).resolve().parent.parent
    done = subprocess.run([sys.executable, "-c", lines], cwd=here, capture_output=True, text=True, check=True)
    return done.stdout


def split(powers, divisor):
    """What comes, and what remains, when a sum is divided by one with 1 at its highest power."""
    rest = list(powers)
    came = [0] * max(0, len(rest) - len(divisor) + 1)
    for k in reversed(range(len(came))):
        came[k] = rest[k + len(divisor) - 1]
        for j, x in enumerate(divisor):
            rest[k + j] -= came[k] * x
    return came, rest[:len(divisor) - 1]


def least_sums():
    found = {1: [-1, 1]}
    for n in range(2, 61):
        left = [-1] + [0] * (n - 1) + [1]
        for lesser in range(1, n):
            if n % lesser == 0:
                left, nothing = split(left, found[lesser])
                if any(nothing):
                    raise ArithmeticError("nothing remains")
        found[n] = left
    return found


LEAST = least_sums()


def coprime(n):
    return [k for k in range(1, n + 1) if math.gcd(k, n) == 1]


def remains(n, powers):
    top = len(LEAST[n]) - 1
    rest = split(powers, LEAST[n])[1]
    return tuple(rest) + (0,) * (top - len(rest))


def moved(n, one, k):
    """Each power j taken as the power j * k, by the rest by n."""
    powers = [0] * n
    for j, x in enumerate(one):
        powers[j * k % n] += x
    return remains(n, powers)


def stretched(n, one, m):
    powers = [0] * m
    for j, x in enumerate(one):
        powers[j * (m // n)] = x
    return remains(m, powers)


def multiplied(one, other):
    powers = [0] * (len(one) + len(other))
    for i, x in enumerate(one):
        for j, y in enumerate(other):
            powers[i + j] += x * y
    return powers


def some_number(n, chance, most=50):
    return tuple(chance.choice((0, chance.randint(-most, most))) for k in coprime(n))


def wholly(n, k):
    return tuple(k if j == 0 else 0 for j, x in enumerate(coprime(n)))


class Facts:
    """Of a group, by hand: its round, classes, sizes, and counts."""

    def __init__(self, group):
        rounds = [[k for k in range(1, 61) if naive_power(group, a, k) == 0][0] for a in range(len(group))]
        self.count = len(group)
        self.n = math.lcm(*rounds)
        self.classes = naive_classes(group)
        self.sizes = tuple(len(members) for members in self.classes)
        self.numbers = tuple(
            [k for k, members in enumerate(self.classes) if a in members][0] for a in range(len(group)))
        self.counts = [[[0] * len(self.classes) for j in self.classes] for i in self.classes]
        leasts = {members[0]: k for k, members in enumerate(self.classes)}
        for x, row in enumerate(group):
            for y, z in enumerate(row):
                if z in leasts:
                    self.counts[self.numbers[x]][self.numbers[y]][leasts[z]] += 1


@functools.lru_cache(maxsize=None)
def facts(group):
    return Facts(group)


def some_rounds(group):
    """The group's round, two and three times it, and the greatest number to 60 that it divides."""
    n = facts(group).n
    return sorted({k for k in (n, 2 * n, 3 * n, 60 // n * n) if k <= 60})


def some_spread(group, n, chance, most=50):
    return tuple(some_number(n, chance, most) for members in facts(group).classes)


def ones(group, n):
    return tuple(wholly(n, 1) for members in facts(group).classes)


def looks_so(group, n, thing):
    """Whether a thing is a spread of n, which the group's round divides: kinds and lengths, within, too."""
    return type(thing) is tuple and len(thing) == len(facts(group).classes) and all(
        type(number) is tuple and len(number) == len(coprime(n)) and all(type(x) is int for x in number)
        for number in thing)


def added(n, numbers):
    """NUMBERs of n added up."""
    found = wholly(n, 0)
    for number in numbers:
        found = tuple(x + y for x, y in zip(found, number))
    return found


def often(number, k):
    return tuple(x * k for x in number)


def naive_meeting(group, n, one, other):
    """Class by class: size times the one's number times the other's, flipped."""
    return added(n, [
        often(remains(n, multiplied(x, moved(n, y, -1))), size) for size, x, y in zip(facts(group).sizes, one, other)])


@functools.lru_cache(maxsize=None)
def naive_fault(group, spread):
    """The first of the words of point 40 that holds of a spread of the group's round, or None where it is pure."""
    known = facts(group)
    n = known.n
    if any(spread[0][1:]) or spread[0][0] < 1:
        return "first"
    for i, one in enumerate(known.sizes):
        for j, other in enumerate(known.sizes):
            product = often(remains(n, multiplied(spread[i], spread[j])), one * other)
            total = added(n, [
                often(number, k * size) for k, size, number in zip(known.counts[i][j], known.sizes, spread) if k])
            if product != remains(n, multiplied(spread[0], total)):
                return "products"
    if naive_meeting(group, n, spread, spread) != wholly(n, known.count):
        return "meeting"
    return None


def naive_pure(group, thing):
    return looks_so(group, facts(group).n, thing) and naive_fault(group, thing) is None


def places_of(group, part):
    """The deed on the sides of a part, by hand: each side with all its things."""
    found = sides_by_hand(group, part)
    return tuple(
        tuple(found.index(tuple(sorted(group[a][x] for x in side))) for side in found) for a in range(len(group)))


def on_all(group):
    """Each thing b goes to a times b."""
    return tuple(tuple(group[a][b] for b in range(len(group))) for a in range(len(group)))


def turning(group):
    return tuple(tuple(turn(group, b, a) for b in range(len(group))) for a in range(len(group)))


def staying(group, places):
    return (tuple(range(places)),) * len(group)


def some_deeds(group):
    """Deeds of at most 24 places, by hand."""
    found = [staying(group, 1), staying(group, 3), staying(group, 24)]
    found.extend(places_of(group, part) for part in some_parts(group) if len(group) <= 24 * len(part))
    if len(group) <= 24:
        found.extend([on_all(group), turning(group)])
    return found


def naive_pieces(deed):
    """Places are brought to one another step by step, until nothing new comes."""
    found = []
    for i in range(len(deed[0])):
        piece = {i}
        while True:
            more = piece | {perm[j] for perm in deed for j in piece}
            if more == piece:
                break
            piece = more
        if tuple(sorted(piece)) not in found:
            found.append(tuple(sorted(piece)))
    return tuple(found)


def naive_traces(group, deed):
    known = facts(group)
    return tuple(
        wholly(known.n, sum(1 for i in range(len(deed[0])) if deed[members[-1]][i] == i)) for members in known.classes)


def framed(group, table):
    """A frame, by hand, of a table told by the program."""
    return (facts(group).n, facts(group).sizes, table)


def naive_match(one, other, thing):
    """Point 70, word by word."""
    if type(thing) is not tuple or not all(type(d) is int for d in thing):
        return False
    if len(thing) != len(one[1]) or sorted(thing) != list(range(len(other[1]))) or thing[0] != 0:
        return False
    if one[0] != other[0] or any(size != other[1][d] for size, d in zip(one[1], thing)):
        return False
    rows = []
    for row in one[2]:
        put = dict(zip(thing, row))
        rows.append(tuple(put[d] for d in range(len(thing))))
    return tuple(sorted(rows)) == other[2]


def naive_shows(one, other, case, pairs=((0, 0),)):
    """Point 71, word by word, of any plain thing; how many cases there are is not looked at."""
    if type(case) is not tuple or not case or type(case[0]) is not str:
        return False
    word, rest = case[0], case[1:]
    if word == "unlike":
        return not rest and (one[0] != other[0] or len(one[1]) != len(other[1]) or sorted(one[1]) != sorted(other[1]))
    if word == "rows":
        if len(rest) != 1 or type(rest[0]) is not int or rest[0] not in range(len(one[2])):
            return False
        want = [one[2][rest[0]][c] for c, d in pairs]
        ours = sum(1 for row in one[2] if [row[c] for c, d in pairs] == want)
        return ours != sum(1 for row in other[2] if [row[d] for c, d in pairs] == want)
    if word != "split" or len(rest) != 2 or type(rest[0]) is not int or type(rest[1]) is not tuple:
        return False
    c = rest[0]
    if c not in range(len(one[1])) or c in [pair[0] for pair in pairs]:
        return False
    fit = [d for d in range(len(other[1])) if d not in [pair[1] for pair in pairs] and other[1][d] == one[1][c]]
    return len(fit) == len(rest[1]) and all(
        naive_shows(one, other, further, pairs + ((c, d),)) for d, further in zip(fit, rest[1]))


def cases_in(case):
    """How many cases there are in all, itself among them."""
    return 1 + sum(cases_in(further) for further in case[2]) if case[0] == "split" else 1


def cases_within(case):
    """How many stand within one another at most, itself among them."""
    return 1 + max([cases_within(further) for further in case[2]], default=0) if case[0] == "split" else 1


def naive_case(one, other, columns, pairs=((0, 0),)):
    """A case by splits of these columns, in their order, and rows where they show it; None where there is a match."""
    for k in range(len(one[2])):
        if naive_shows(one, other, ("rows", k), pairs):
            return ("rows", k)
    if not columns:
        return None
    taken = [d for c, d in pairs]
    cases = []
    for d, size in enumerate(other[1]):
        if d not in taken and size == one[1][columns[0]]:
            case = naive_case(one, other, columns[1:], pairs + ((columns[0], d),))
            if case is None:
                return None
            cases.append(case)
    return ("split", columns[0], tuple(cases))


def naive_shown(number):
    """Point 76: its places that aren't 0, in order."""
    found = ""
    for power, k in enumerate(number):
        if k:
            text = str(k)
            if power and abs(k) == 1:
                text = text[:-1]
            text += "" if power == 0 else "z" if power == 1 else f"z{power}"
            found += text if k < 0 or not found else "+" + text
    return found or "0"


def naive_read(n, text):
    """The NUMBER by the form of each place; None where the text has another form."""
    if text == "0":
        return wholly(n, 0)
    found = [0] * len(coprime(n))
    least = 0
    rest = text
    while rest or not least:
        place = re.match(r"([+-]?)([1-9][0-9]*)?(z(?:([2-9]|[1-9][0-9]+)(?![0-9]))?)?", rest)
        sign, figures, z, high = place.groups()
        power = 0 if not z else int(high) if high else 1
        if (not figures and not z) or (figures == "1" and z) or (sign == "+") == (not least) and sign != "-":
            return None
        if power < least or power >= len(found):
            return None
        found[power] = int(sign + (figures or "1"))
        least = power + 1
        rest = rest[place.end():]
    return tuple(found)


def naive_lines(frame):
    """Point 77's lines."""
    lines = ["table " + " ".join(str(x) for x in (frame[0],) + frame[1])]
    for row in frame[2]:
        lines.append("row " + " ".join(naive_shown(number) for number in row))
    return lines
