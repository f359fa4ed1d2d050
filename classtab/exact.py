"""NUMBERs: exact sums over the powers of one root of n, told in one form each."""

from classtab.helper import is_whole


def primes_of(n):
    """The primes that divide n, rising."""
    primes = []
    rest = n
    p = 2
    while rest > 1:
        if rest % p == 0:
            primes.append(p)
        while rest % p == 0:
            rest = rest // p
        p += 1
    return primes


def places(n):
    """How many of 1, 2, .. n have no divisor above 1 in common with n."""
    found = n
    for p in primes_of(n):
        found = found // p * (p - 1)
    return found


def stretched(powers, step):
    """A sum with each power k taken as the power k * step."""
    wide = [0] * ((len(powers) - 1) * step + 1)
    for k, x in enumerate(powers):
        wide[k * step] = x
    return wide


def quotient(powers, divisor):
    """A sum divided by one that has 1 at its highest power, where nothing remains."""
    rest = list(powers)
    top = len(divisor) - 1
    found = [0] * (len(rest) - top)
    for k in range(len(found) - 1, -1, -1):
        found[k] = rest[k + top]
        for j, x in enumerate(divisor):
            rest[k + j] -= found[k] * x
    return found


def least_sum(n):
    """The least sum of n, as a list from the power 0 on.

    It is built prime by prime, since dividing by the least sums of all divisors takes far longer: of k
    times a new prime p it is that of k with powers p times as high, divided by that of k; and a prime
    that stands in n once more only makes the powers p times as high.
    """
    found = [-1, 1]
    built = 1
    for p in primes_of(n):
        found = quotient(stretched(found, p), found)
        built = built * p
    return stretched(found, n // built)


def number_of(n, powers):
    """The NUMBER of n that a sum over powers means."""
    least = least_sum(n)
    top = len(least) - 1
    rest = [0] * n
    for k, x in enumerate(powers):
        rest[k % n] += x
    for k in range(n - 1, top - 1, -1):
        high = rest[k]
        if high != 0:
            for j, x in enumerate(least):
                rest[k - top + j] -= high * x
    return tuple(rest[:top])


def whole(n, k):
    """The whole number k as a NUMBER of n."""
    return (k,) + (0,) * (places(n) - 1)


def is_number(n, thing):
    """Whether any plain thing is a NUMBER of n."""
    return isinstance(thing, tuple) and len(thing) == places(n) and all([is_whole(x) for x in thing])


def plus(one, other):
    """Both added."""
    return tuple([x + y for x, y in zip(one, other)])


def less(one, other):
    """One less the other."""
    return tuple([x - y for x, y in zip(one, other)])


def scaled(one, k):
    """One times a whole number."""
    return tuple([x * k for x in one])


def gathered(numbers, often, start):
    """Some NUMBERs, each so many times, added to a first one."""
    found = start
    for one, k in zip(numbers, often):
        if k != 0:
            found = plus(found, scaled(one, k))
    return found


def times(n, one, other):
    """One times the other."""
    powers = [0] * (len(one) + len(other) - 1)
    for i, x in enumerate(one):
        if x != 0:
            for j, y in enumerate(other):
                powers[i + j] += x * y
    return number_of(n, powers)


def flipped(n, one):
    """One with each power k taken as the power -k."""
    return turned(n, one, -1)


def turned(n, one, k):
    """One with each power j taken as the power j * k, k without a common divisor with n."""
    powers = [0] * n
    for j, x in enumerate(one):
        powers[j * k % n] += x
    return number_of(n, powers)


def widened(n, one, m):
    """The NUMBER of m that is the same, n dividing m."""
    return number_of(m, stretched(one, m // n))


def narrowed(n, one, m):
    """The NUMBER of m, a divisor of n, which widened to n is this one, or None."""
    found = one
    size = n
    for p in primes_of(n // m):
        while size // m % p == 0:
            found = narrowed_once(size, found, p)
            if found is None:
                return None
            size = size // p
    return found


def narrowed_once(n, one, p):
    """The NUMBER of n / p, p a prime that divides n, which widened to n is this one, or None.

    With z of n / p being the power p of z, each number is a sum of p NUMBERs of n / p, each times a power
    of z of its own. Where p divides n / p, there is one such sum alone. Else those powers of z are all
    powers of a root of p, and all that is free is one NUMBER added to all p of them.
    """
    q = n // p
    sums = parted(n, one, p)
    last = sums[p - 1]
    if q % p == 0:
        last = whole(q, 0)
    if any([sums[t] != last for t in range(1, p)]):
        return None
    return less(sums[0], last)


def parted(n, one, p):
    """The p NUMBERs of n / p of which this one is the sum, number t times z to the power t * step.

    A step of 1 gives every power of z where p divides n / p; else a step of n / p does, too, and makes
    the powers of z those of a root of p.
    """
    q = n // p
    step = 1 if q % p == 0 else q
    sums = [[0] * q for t in range(p)]
    for j, x in enumerate(one):
        t = 0
        while (j - t * step) % p != 0:
            t += 1
        sums[t][(j - t * step) // p % q] += x
    return [number_of(q, powers) for powers in sums]


def divided(one, k):
    """The NUMBER which times k, a whole number from 1 on, is this one, or None."""
    if any([x % k != 0 for x in one]):
        return None
    return tuple([x // k for x in one])


def whole_of(one):
    """The whole number that a NUMBER is, or None."""
    if any([x != 0 for x in one[1:]]):
        return None
    return one[0]
