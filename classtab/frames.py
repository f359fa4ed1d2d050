"""FRAMEs: a group's round, the sizes of its classes and its table; and how one is laid upon another."""

from classtab.classes import sizes_of
from classtab.groups import full_round
from classtab.helper import is_order


def frame_of(group, table):
    """The frame of a group: its round, the sizes of its classes, its table."""
    return (full_round(group), sizes_of(group), table)


def is_match(one, other, thing):
    """Whether any plain thing tells, for each column of a frame, the column of another one on which it lies."""
    if one[0] != other[0] or not is_order(thing, len(one[1])) or laid(one[1], thing) != other[1]:
        return False
    return tuple(sorted([laid(row, thing) for row in one[2]])) == other[2]


def laid(row, match):
    """What stands in a row, each put where a match tells."""
    return tuple([row[match.index(d)] for d in range(len(row))])


def unlike_ahead(one, other):
    """Whether two frames differ ahead of all rows: in n, in how many columns, or in the sorted sizes."""
    return one[0] != other[0] or sorted(one[1]) != sorted(other[1])


def fit_columns(one, other, pairs, c):
    """The columns of the other frame that aren't paired and have the size of the one's column c, rising."""
    taken = [pair[1] for pair in pairs]
    return [d for d, size in enumerate(other[1]) if size == one[1][c] and d not in taken]


def picked(row, columns):
    """What a row has at some columns."""
    return tuple([row[c] for c in columns])
