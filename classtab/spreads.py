"""SPREADs: a NUMBER for each class of a group."""

from classtab.classes import sizes_of
from classtab.exact import flipped, gathered, is_number, plus, scaled, times, whole, widened
from classtab.groups import full_round

MOST_N = 60


def are_numbers(n, length, thing):
    """Whether any plain thing is a tuple of so many NUMBERs of n."""
    return isinstance(thing, tuple) and len(thing) == length and all([is_number(n, x) for x in thing])


def is_spread(group, n, thing):
    """Whether any plain thing is a spread of n of a group."""
    if n < 1 or n > MOST_N or n % full_round(group) != 0:
        return False
    return are_numbers(n, len(sizes_of(group)), thing)


def spread_plus(one, other):
    """Both added, number by number."""
    return tuple([plus(x, y) for x, y in zip(one, other)])


def spread_times(n, one, other):
    """One times the other, number by number."""
    return tuple([times(n, x, y) for x, y in zip(one, other)])


def spread_flipped(n, one):
    """One with each number flipped."""
    return tuple([flipped(n, x) for x in one])


def spread_scaled(one, k):
    """One taken a whole number of times."""
    return tuple([scaled(x, k) for x in one])


def widened_spread(n, one, m):
    """The spread of m that is the same, n dividing m."""
    return tuple([widened(n, x, m) for x in one])


def meeting(group, n, one, other):
    """The meeting of two spreads of n, a NUMBER of n."""
    return meeting_by(sizes_of(group), n, one, other)


def meeting_by(sizes, n, one, other):
    """The meeting of two spreads of n on classes of these sizes."""
    return gathered(spread_times(n, one, spread_flipped(n, other)), sizes, whole(n, 0))
