"""The small checker of shares: whatever it lets by has just the shares of the spread."""

from classtab.classes import counts_of, sizes_of
from classtab.errors import NoShares
from classtab.exact import gathered, whole
from classtab.groups import full_round
from classtab.helper import is_whole
from classtab.pure import fault_of
from classtab.spreads import are_numbers


def lets_shares(group, spread, thing):
    """True where any plain thing is a share paper of a spread, else it is refused with the first fault."""
    n = full_round(group)
    sizes = sizes_of(group)
    if not is_paper(n, len(sizes), thing):
        raise NoShares("shape", 0)
    counts = counts_of(group)
    for k, entry in enumerate(thing):
        if fault_of(n, sizes, counts, entry[0]) is not None:
            raise NoShares("pure", k)
    often = [entry[1] for entry in thing]
    for c, number in enumerate(spread):
        if gathered([entry[0][c] for entry in thing], often, whole(n, 0)) != number:
            raise NoShares("sum", c)
    return True


def is_paper(n, count, thing):
    """Whether a thing is a tuple of tuples of a spread of n and a whole number from 1 on, the spreads rising."""
    if not isinstance(thing, tuple) or not all([is_entry(n, count, entry) for entry in thing]):
        return False
    return all([thing[k - 1][0] < thing[k][0] for k in range(1, len(thing))])


def is_entry(n, count, thing):
    """Whether a thing is a tuple of a spread of n, on so many classes, and a whole number from 1 on."""
    if not isinstance(thing, tuple) or len(thing) != 2:
        return False
    return are_numbers(n, count, thing[0]) and is_whole(thing[1]) and thing[1] >= 1
