"""PURE spreads: what makes a spread pure, and the first thing that it lacks."""

from classtab.classes import counts_of, sizes_of
from classtab.exact import gathered, scaled, times, whole, whole_of
from classtab.groups import full_round
from classtab.spreads import is_spread, meeting_by


def is_pure(group, thing):
    """Whether any plain thing is a pure spread of a group."""
    n = full_round(group)
    if not is_spread(group, n, thing):
        return False
    return fault_of(n, sizes_of(group), counts_of(group), thing) is None


def fault_of(n, sizes, counts, spread):
    """The word for the first thing that a spread lacks to be pure, or None where it is pure."""
    if not has_first(spread):
        return "first"
    if not has_products(n, sizes, counts, spread):
        return "products"
    if meeting_by(sizes, n, spread, spread) != whole(n, sum(sizes)):
        return "meeting"
    return None


def has_first(spread):
    """Whether the first number is a whole one from 1 on."""
    first = whole_of(spread[0])
    return first is not None and first >= 1


def has_products(n, sizes, counts, spread):
    """Whether the products hold for any two classes, of a spread whose first number is whole."""
    first = whole_of(spread[0])
    weighed = [scaled(x, size) for x, size in zip(spread, sizes)]
    for i, seconds in enumerate(counts):
        # Classes i and j have the same counts as j and i: x times y is y turned by x, times x.
        for j in range(i + 1):
            if times(n, weighed[i], weighed[j]) != scaled(gathered(weighed, seconds[j], whole(n, 0)), first):
                return False
    return True
