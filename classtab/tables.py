"""The table of a group: all its pure spreads, sorted.

How they are found. Sums of classes are multiplied by the counts, their numbers taken by the rests by a
prime p. The sum that has class 0 alone changes nothing. It is taken apart into sums, as many as classes,
which each class, times them, only multiplies by a whole number. Each of these has at the backs of each
class, but for one factor that all classes share, the number of one pure spread there.

With p a root of n, the group's round, is there among the rests. A pure spread's number at a thing is a sum
of powers of the root, as many as its first number tells. How often each power stands in it comes of the
numbers at the thing's powers; and since p is above all these, the rests tell it exactly.
"""

from classtab.classes import class_numbers, classes_of, counts_of
from classtab.exact import number_of
from classtab.groups import full_round


def table_of(group):
    """All pure spreads of a group, sorted."""
    n = full_round(group)
    p = fit_prime(n, len(group))
    roots = root_powers(n, p)
    walks = power_walks(group)
    rows = []
    for one in taken_apart(counts_of(group), p):
        share = len(group) * back_by(p, first_of(one, len(group), p))
        rows.append(tuple([number_at(walk, one, share, roots, p) for walk in walks]))
    return tuple(sorted(rows))


def fit_prime(n, count):
    """The least prime with the rest 1 by n that is above twice the root of the count.

    No first number is above that root, as the squares of all of them add up to the count.
    """
    p = n + 1
    while p * p <= 4 * count or any([p % k == 0 for k in range(2, p)]):
        p += n
    return p


def root_powers(n, p):
    """The n powers, by the rests by p, of a number of which the power n is 1 and no lesser one from 1 on is."""
    z = 1
    powers = [1]
    while len(powers) != n:
        z += 1
        powers = [1]
        while powers[-1] * z % p != 1:
            powers.append(powers[-1] * z % p)
    return powers


def back_by(p, x):
    """The number which times x has the rest 1 by p."""
    found = 1
    while found * x % p != 1:
        found += 1
    return found


def power_walks(group):
    """For each class the classes of the powers of its least thing, from the power 0 on for one round."""
    numbers = class_numbers(group)
    walks = []
    for members in classes_of(group):
        walk = [0]
        a = members[0]
        while a != 0:
            walk.append(numbers[a])
            a = group[a][members[0]]
        walks.append(walk)
    return walks


def taken_apart(counts, p):
    """The sums that add up to class 0 alone and that each class, times them, only multiplies by a number."""
    found = [[1] + [0] * (len(counts) - 1)]
    for seconds in counts:
        if len(found) < len(counts):
            columns = [[ends[k] for ends in seconds] for k in range(len(counts))]
            finer = []
            for one in found:
                finer.extend(parts_by(columns, one, p))
            found = finer
    return found


def parts_by(columns, one, p):
    """The parts of a sum that one class, given by its columns, multiplies by unlike numbers."""
    parts = []
    rest = one
    while any(rest):
        part = last_part(columns, rest, p)
        parts.append(part)
        rest = [(x - y) % p for x, y in zip(rest, part)]
    return parts


def last_part(columns, one, p):
    """The part of a sum that a class multiplies by the greatest number.

    The class less k, for k from 0 on, takes away one part behind the other; a part that goes with y is
    multiplied by y, y - 1, .. on the way, so the last one is left times all numbers from 1 to its own.
    """
    k = 0
    factor = 1
    left = one
    after = less_often(columns, left, k, p)
    while any(after):
        left = after
        k += 1
        factor = factor * k % p
        after = less_often(columns, left, k, p)
    undo = back_by(p, factor)
    return [x * undo % p for x in left]


def less_often(columns, one, k, p):
    """A class times a sum, less k times that sum."""
    found = []
    for column, x in zip(columns, one):
        found.append((sum([y * often for y, often in zip(one, column)]) - k * x) % p)
    return found


def first_of(one, count, p):
    """The first number of the pure spread that such a sum shows: at class 0 stands its square over the count."""
    d = 1
    while (d * d - one[0] * count) % p != 0:
        d += 1
    return d


def number_at(walk, one, share, roots, p):
    """The NUMBER at a thing whose powers walk so, of the spread that has at the backs share times what one has."""
    n = len(roots)
    step = n // len(walk)
    part = share * back_by(p, len(walk))
    often = [0] * n
    for j in range(0, n, step):
        often[j] = part * sum([one[c] * roots[j * k % n] for k, c in enumerate(walk)]) % p
    return number_of(n, often)
