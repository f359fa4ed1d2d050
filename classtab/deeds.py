"""DEEDs: a perm for each thing of a group, which go as the things do."""

from classtab.classes import classes_of, turned_by
from classtab.exact import whole
from classtab.groups import full_round
from classtab.helper import holders, numbered
from classtab.parts import sides
from classtab.perms import is_perm, perm_times


def is_deed(group, thing):
    """Whether any plain thing is a deed of a group."""
    if not isinstance(thing, tuple) or len(thing) != len(group):
        return False
    if not all([is_perm(perm) for perm in thing]):
        return False
    if any([len(perm) != len(thing[0]) for perm in thing]):
        return False
    return goes_along(group, thing)


def goes_along(group, perms):
    """Whether the perm of a times b is that of a times that of b, for all a and b.

    So that of 0 leaves each place: it is itself times itself, and what a perm does can be undone.
    """
    for a, row in enumerate(group):
        if any([perms[c] != perm_times(perms[a], perms[b]) for b, c in enumerate(row)]):
            return False
    return True


def traces(group, deed):
    """The spread that has at each class how many places each thing of it leaves."""
    n = full_round(group)
    return tuple([whole(n, places_left(deed[members[0]])) for members in classes_of(group)])


def places_left(perm):
    """How many places go to themselves."""
    return len([i for i, place in enumerate(perm) if i == place])


def pieces(group, deed):
    """The places that can be brought to one another, rising tuples, by their least places."""
    found = [tuple(sorted(set([perm[i] for perm in deed]))) for i in range(len(deed[0]))]
    return tuple(sorted(set(found)))


def on_sides(group, part):
    """The deed on the sides of a part: a thing a brings a side to that in which a times its things are."""
    found = sides(group, part)
    lies = holders(found, len(group))
    return tuple([tuple([lies[row[side[0]]] for side in found]) for row in group])


def own_deed(group):
    """The deed by which a thing a brings b to a times b."""
    return tuple([tuple(row) for row in group])


def turning_deed(group):
    """The deed by which a thing a brings b to b turned by a."""
    return tuple([tuple([turned_by(group, b, a) for b in range(len(group))]) for a in range(len(group))])


def beside(one, other):
    """Two deeds beside one another, the other's places behind the one's."""
    found = []
    for first, second in zip(one, other):
        found.append(first + tuple([len(first) + place for place in second]))
    return tuple(found)


def on_pairs(one, other):
    """The deed on pairs of a place of the one and a place of the other."""
    return tuple([paired(first, second) for first, second in zip(one, other)])


def paired(first, second):
    """The perm of pairs by which both places go, each by its own perm."""
    places = []
    for i in first:
        places.extend([i * len(second) + j for j in second])
    return tuple(places)


def on_twos(deed):
    """The deed on pairs (i, j) of places, i below j, numbered as they rise."""
    twos = []
    for i in range(len(deed[0])):
        twos.extend([(i, j) for j in range(i + 1, len(deed[0]))])
    numbers = numbered(twos)
    found = []
    for perm in deed:
        found.append(tuple([numbers[tuple(sorted([perm[i], perm[j]]))] for i, j in twos]))
    return tuple(found)
