"""What several tests need: groups that are made here, by hand, and plain things of all kinds."""

import random


def cyclic(n):
    return tuple(tuple((a + b) % n for b in range(n)) for a in range(n))


def pairs_of(one, other):
    n = len(other)
    return tuple(
        tuple(one[a // n][b // n] * n + other[a % n][b % n] for b in range(len(one) * n))
        for a in range(len(one) * n)
    )


def twisted(m, k, r, lift=0):
    """Things x^i y^j (number i * k + j): x has round m, y x = x^r y, and y to the power k is x^lift."""
    def product(a, b):
        i, j = divmod(a, k)
        s, t = divmod(b, k)
        over = 1 if j + t >= k else 0
        return (i + s * r ** j + lift * over) % m * k + (j + t) % k

    return tuple(tuple(product(a, b) for b in range(m * k)) for a in range(m * k))


def goes(one, other):
    """Each place goes as the other one tells, then as the one tells."""
    return tuple(one[other[i]] for i in range(len(other)))


def all_perms(perms):
    """All perms that come of some, by multiplying all with all until nothing new comes."""
    found = {tuple(range(len(perms[0])))} | set(perms)
    while True:
        more = found | {goes(a, b) for a in found for b in found}
        if len(more) == len(found):
            return sorted(found)
        found = more


def by_perms(perms):
    found = all_perms(perms)
    return tuple(tuple(found.index(goes(a, b)) for b in found) for a in found)


def in_order(group, order):
    return tuple(tuple(order.index(group[a][b]) for b in order) for a in order)


def shuffled(group, seed):
    rest = list(range(1, len(group)))
    random.Random(seed).shuffle(rest)
    return in_order(group, [0] + rest)


def alternating(m):
    turns = []
    for k in range(2, m):
        perm = list(range(m))
        perm[0], perm[1], perm[k] = 1, k, 0
        turns.append(tuple(perm))
    return by_perms(turns)


def symmetric(m):
    return by_perms([(1, 0) + tuple(range(2, m)), tuple(range(1, m)) + (0,)])


def few_classes():
    """Groups of 1 to 60 things with at most sixteen classes, by names."""
    found = {
        "one": cyclic(1), "two": cyclic(2), "three": cyclic(3), "four": cyclic(4), "twos": pairs_of(cyclic(2), cyclic(2)),
        "six": cyclic(6), "eight": cyclic(8), "twelve": cyclic(12), "sixteen": cyclic(16),
        "s3": symmetric(3), "d4": twisted(4, 2, 3), "q8": twisted(4, 2, 3, 2), "d5": twisted(5, 2, 4),
        "a4": alternating(4), "d6": twisted(6, 2, 5), "dic3": twisted(6, 2, 5, 3), "f20": twisted(5, 4, 2),
        "f21": twisted(7, 3, 2), "s4": symmetric(4), "f42": twisted(7, 6, 3), "f55": twisted(11, 5, 3),
        "f57": twisted(19, 3, 7), "d8": twisted(8, 2, 7), "s3s3": pairs_of(symmetric(3), symmetric(3)),
        "a4twos": pairs_of(alternating(4), cyclic(2)), "a5": alternating(5),
    }
    return found


def sample_groups():
    """Groups of 1 to 60 things, by names; each also with its things in another order."""
    found = few_classes()
    found.update({
        "fifteen": cyclic(15), "thirtyone": cyclic(31), "sixty": cyclic(60),
        "threes": pairs_of(cyclic(3), pairs_of(cyclic(3), cyclic(3))), "d30": twisted(30, 2, 29),
        "dic15": twisted(30, 2, 29, 15), "a4five": pairs_of(alternating(4), cyclic(5)),
        "q8seven": pairs_of(twisted(4, 2, 3, 2), cyclic(7)),
    })
    return with_orders(found)


def with_orders(groups):
    found = dict(groups)
    for seed, name in enumerate(groups):
        found[name + " shuffled"] = shuffled(groups[name], seed)
    return found


def plain_things():
    """Plain things of all kinds, none of them a group, a perm or a part."""
    deep = ()
    for k in range(35):
        deep = (deep,)
    return [
        None, True, False, 0, 1, -1, 10 ** 39, "", "0", "shape", [], {}, [0], [[0]], {0: 0}, {(0,): (0,)},
        (None,), (True,), (False,), ("0",), ([0],), ({},), ([],), ((),), deep, ((None,),), ((True,),), ((False,),),
        (("0",),), (([],),), (({},),), [(0,)], ((0, 1), [1, 0]), ([0, 1], (1, 0)), (0, None), (0, "1"), (0, True),
        (False, 1), (0, (1,)), (0, [1]), "01", ["0", "1"], {"a": [1, (2, {})]}, (10 ** 39,), (-1,),
    ]


def turn(group, b, t):
    return group[group[t][b]][group[t].index(0)]


def naive_classes(group):
    found = []
    for b in range(len(group)):
        members = tuple(sorted({turn(group, b, t) for t in range(len(group))}))
        if members not in found:
            found.append(members)
    return tuple(found)


def naive_power(group, a, k):
    """Step by step, but for a k that is far away: rounds never pass 60, so steps of 60! change nothing."""
    far = 1
    for i in range(2, 61):
        far *= i
    row = [0]
    while len(row) < 2 or row[-1] != 0:
        row.append(group[row[-1]][a])
    return row[(k % far) % (len(row) - 1)]


def told(test, got, want):
    """The same, of the same kinds within, too: a list is no tuple, True is no 1."""
    test.assertEqual(got, want)
    test.assertEqual(repr(got), repr(want))


def untouched(test, ask, *things):
    """Ask, and look that nothing that was handed in has changed."""
    before = repr(things)
    try:
        return ask(*things)
    finally:
        test.assertEqual(repr(things), before)
