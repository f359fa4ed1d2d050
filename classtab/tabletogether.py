"""Tables put together of two others, and spreads raised from the group over a kept part."""

from classtab.classes import class_numbers, classes_of
from classtab.exact import times
from classtab.groups import full_round
from classtab.helper import holders
from classtab.making import together
from classtab.parts import over, sides
from classtab.spreads import widened_spread


def table_together(one, other, first, second):
    """The table of two groups put together, by the table of the one and that of the other."""
    both = together(one, other)
    n = full_round(both)
    columns = paired_columns(one, other, both)
    ours = [widened_spread(full_round(one), row, n) for row in first]
    theirs = [widened_spread(full_round(other), row, n) for row in second]
    rows = []
    for left in ours:
        rows.extend([tuple([times(n, left[c], right[d]) for c, d in columns]) for right in theirs])
    return tuple(sorted(rows))


def paired_columns(one, other, both):
    """For each class of two groups put together the one's class and the other's in which its pairs are."""
    count = len(other)
    ours = class_numbers(one)
    theirs = class_numbers(other)
    return [(ours[members[0] // count], theirs[members[0] % count]) for members in classes_of(both)]


def raised(group, part, spread):
    """The spread of the whole group that has at each class the number at the class of the side of its things."""
    numbers = class_numbers(over(group, part))
    lies = holders(sides(group, part), len(group))
    return tuple([spread[numbers[lies[members[0]]]] for members in classes_of(group)])
