"""Classes of a group: the things that can be turned into one another."""

from classtab.groups import back, power
from classtab.helper import holders


def turned_by(group, b, t):
    """A thing b turned by t."""
    return group[group[t][b]][back(group, t)]


def turnings(group, b):
    """All that a thing can be turned into, a tuple, rising."""
    return tuple(sorted(set([turned_by(group, b, t) for t in range(len(group))])))


def classes_of(group):
    """The classes, rising tuples of things, by their least things."""
    found = []
    seen = {}
    for b in range(len(group)):
        if b not in seen:
            found.append(turnings(group, b))
            for a in found[-1]:
                seen[a] = True
    return tuple(found)


def class_numbers(group):
    """For each thing the number of its class."""
    return holders(classes_of(group), len(group))


def sizes_of(group):
    """For each class how many things it has."""
    return tuple([len(members) for members in classes_of(group)])


def powers_of(group, k):
    """For each class the number of the class in which the powers k of its things are."""
    numbers = class_numbers(group)
    return tuple([numbers[power(group, members[0], k)] for members in classes_of(group)])


def counts_of(group):
    """For classes i, j, k how many pairs of i and j have as their times the least thing of k."""
    classes = classes_of(group)
    numbers = class_numbers(group)
    counts = [[[0] * len(classes) for j in classes] for i in classes]
    for x, row in enumerate(group):
        for y, z in enumerate(row):
            k = numbers[z]
            if classes[k][0] == z:
                counts[numbers[x]][numbers[y]][k] += 1
    return tuple([tuple([tuple(ends) for ends in seconds]) for seconds in counts])
