"""Spreads moved between a group and the own group of a part: restricted and lifted."""

from classtab.classes import sizes_of
from classtab.exact import gathered, scaled
from classtab.parts import classes_in, inside


def restricted(group, part, spread):
    """The spread of the part's own group that has at each class the number of the class in which it lies."""
    return tuple([spread[c] for c in classes_in(group, part)])


def lifted(group, part, spread):
    """The spread of the whole group that answers, in meetings, to a spread of the part's own group."""
    sizes = sizes_of(group)
    lies = classes_in(group, part)
    own_sizes = sizes_of(inside(group, part))
    weights = [len(group) * size // (len(part) * sizes[c]) for c, size in zip(lies, own_sizes)]
    found = []
    for c in range(len(sizes)):
        often = [weight if lie == c else 0 for lie, weight in zip(lies, weights)]
        found.append(gathered(spread, often, scaled(spread[0], 0)))
    return tuple(found)
