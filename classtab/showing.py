"""What a table shows: kernels, kept parts, sorts of rows, how many things' squares are each thing, and counts."""

from classtab.classes import classes_of, powers_of, sizes_of
from classtab.exact import gathered, scaled, whole_of
from classtab.shares import put_by
from classtab.tables import back_by, fit_prime, root_powers


def kernel(group, table, k):
    """The things of all classes at which the number of row k is its first one."""
    row = table[k]
    found = []
    for members, number in zip(classes_of(group), row):
        if number == row[0]:
            found.extend(members)
    return tuple(sorted(found))


def common(one, other):
    """The things that two parts have in common."""
    return tuple([a for a in one if a in other])


def kept_parts(group, table):
    """All kept parts, sorted: what several kernels have in common."""
    found = {tuple(range(len(group))): True}
    for k in range(len(table)):
        part = kernel(group, table, k)
        for other in list(found):
            found[common(other, part)] = True
    return sorted(found)


def centre(group):
    """The things that are a class by themselves."""
    return tuple([members[0] for members in classes_of(group) if len(members) == 1])


def down(group, table):
    """What the kernels of all rows with first number 1 have in common."""
    found = tuple(range(len(group)))
    for k, row in enumerate(table):
        if whole_of(row[0]) == 1:
            found = common(found, kernel(group, table, k))
    return found


def sort_of(group, spread):
    """The sort of a pure spread, 1, 0 or -1, by its numbers at the squares."""
    at_squares = [spread[c] for c in powers_of(group, 2)]
    total = gathered(at_squares, sizes_of(group), scaled(spread[0], 0))
    return whole_of(total) // len(group)


def roots_of(group, table):
    """How many things have as their square the least thing of each class."""
    sorts = [sort_of(group, row) for row in table]
    return tuple([whole_of(number) for number in put_by(table, sorts)])


def counts_by(n, sizes, rows):
    """The counts of some group, by the sizes of its classes and its table alone.

    All is taken by the rests by a prime p, with a root of n among the rests. No counts are above the group's
    own count, and p is above twice that; so the rests tell them exactly.
    """
    count = sum(sizes)
    p = fit_prime(n, count * count)
    roots = root_powers(n, p)
    # By their rests a power -k of the root is the power k of the root's back.
    backs = roots[:1] + roots[:0:-1]
    ours = [rests_of(row, roots, p) for row in rows]
    ends = [rests_of(row, backs, p) for row in rows]
    shares = [back_by(p, count * row[0]) for row in ours]
    found = []
    for i, size in enumerate(sizes):
        found.append([])
        for j, other in enumerate(sizes):
            parts = [size * other * share * row[i] * row[j] % p for share, row in zip(shares, ours)]
            found[i].append(tuple([added_up(parts, ends, k) % p for k in range(len(sizes))]))
    return tuple([tuple(seconds) for seconds in found])


def rests_of(row, roots, p):
    """The rests by p of a row's numbers, the powers of z having these rests."""
    return [sum([x * root for x, root in zip(number, roots)]) % p for number in row]


def added_up(parts, ends, k):
    """The sum over all rows of a part times the row's number at the end k."""
    return sum([part * row[k] for part, row in zip(parts, ends)])
