"""The small checker of tables: whatever it lets by is, sorted, the table of the group."""

from classtab.classes import counts_of, sizes_of
from classtab.errors import NoTable
from classtab.groups import full_round
from classtab.pure import fault_of
from classtab.spreads import are_numbers


def lets_table(group, thing):
    """True where any plain thing has all pure spreads of a group, each once, else it is refused."""
    n = full_round(group)
    sizes = sizes_of(group)
    if not has_spreads(n, len(sizes), thing):
        raise NoTable("shape", 0)
    counts = counts_of(group)
    for k, row in enumerate(thing):
        fault = fault_of(n, sizes, counts, row)
        if fault is not None:
            raise NoTable(fault, k)
    for k, row in enumerate(thing):
        if row in thing[:k]:
            raise NoTable("twice", k)
    return True


def has_spreads(n, count, thing):
    """Whether a thing is a tuple of as many spreads of n as there are classes."""
    if not isinstance(thing, tuple) or len(thing) != count:
        return False
    return all([are_numbers(n, count, row) for row in thing])
