"""Parts of a group: the least ones that have some things, their sides, and the groups they make."""

from classtab.classes import class_numbers, classes_of, turnings
from classtab.errors import NoPart
from classtab.helper import are_things, holders, reached, tabled


def is_part(group, thing):
    """Whether any plain thing is a part of a group."""
    return are_things(thing, len(group)) and part_by(group, thing) == thing


def part_by(group, things):
    """The least part that has some things."""
    makers = sorted(set(things))
    return tuple(reached(0, lambda a: [group[a][b] for b in makers], len(group)))


def kept_by(group, things):
    """The least kept part that has some things."""
    makers = []
    for a in sorted(set(things)):
        makers.extend(turnings(group, a))
    return part_by(group, makers)


def is_kept(group, part):
    """Whether a part has each of its things turned by any thing."""
    return kept_by(group, part) == part


def sides(group, part):
    """The sides of a part, rising tuples, by their least things."""
    found = [tuple(sorted([row[h] for h in part])) for row in group]
    return tuple(sorted(set(found)))


def inside(group, part):
    """The group that a part is by itself."""
    return tabled(part, lambda a, b: group[a][b])


def classes_in(group, part):
    """For each class of the part's own group the class of the whole one in which it lies."""
    numbers = class_numbers(group)
    return tuple([numbers[part[members[0]]] for members in classes_of(inside(group, part))])


def over(group, part):
    """The group of the sides of a kept part."""
    if not is_kept(group, part):
        raise NoPart("the part is not kept")
    found = sides(group, part)
    lies = holders(found, len(group))
    return tuple([tuple([lies[group[one[0]][other[0]]] for other in found]) for one in found])
