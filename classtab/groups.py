"""GROUPs: whether a thing is one, and backs, powers and rounds of its things."""

from classtab.errors import NoGroup
from classtab.helper import MOST_THINGS, are_things


def has_shape(thing):
    """Whether a thing is a tuple of from 1 to 60 rows, each with as many things."""
    if not isinstance(thing, tuple) or len(thing) < 1 or len(thing) > MOST_THINGS:
        return False
    count = len(thing)
    return all([are_things(row, count) and len(row) == count for row in thing])


def has_back(table, a):
    """Whether some thing times a, and a times it, is 0."""
    return any([table[a][b] == 0 and table[b][a] == 0 for b in range(len(table))])


def goes_by_threes(table, a):
    """Whether (a times b) times c is a times (b times c) for all b and c."""
    row = table[a]
    for b, row_of_b in enumerate(table):
        if table[row[b]] != tuple([row[x] for x in row_of_b]):
            return False
    return True


def ask_group(thing):
    """True where any plain thing is a group, else it is refused with the first fault."""
    if not has_shape(thing):
        raise NoGroup("shape", 0)
    for a in range(len(thing)):
        if thing[0][a] != a or thing[a][0] != a:
            raise NoGroup("one", a)
    for a in range(len(thing)):
        if not has_back(thing, a):
            raise NoGroup("back", a)
    for a in range(len(thing)):
        if not goes_by_threes(thing, a):
            raise NoGroup("three", a)
    return True


def back(group, a):
    """The back of a thing."""
    return group[a].index(0)


def power(group, a, k):
    """The power k of a thing, k any whole number."""
    found = 0
    # Powers come back after a round, so that k may be as great as it likes, below nought, too.
    for step in range(k % round_of(group, a)):
        found = group[found][a]
    return found


def round_of(group, a):
    """The least k from 1 on such that the power k of a thing is 0."""
    k = 1
    found = a
    while found != 0:
        found = group[found][a]
        k += 1
    return k


def full_round(group):
    """The least whole number from 1 on that the rounds of all things divide."""
    found = 1
    for a in range(len(group)):
        step = found
        while found % round_of(group, a) != 0:
            found += step
    return found
