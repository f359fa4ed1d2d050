"""Groups made: by perms, of two others put together, and by another order of the things."""

from classtab.errors import NoOrder, NoPerm, TooMany
from classtab.helper import MOST_THINGS, is_order, reached, tabled
from classtab.perms import is_perm, perm_times


def ask_perms(perms):
    """Refuse the first that is no perm or has another number of places than the first one."""
    for k, perm in enumerate(perms):
        if not is_perm(perm) or len(perm) != len(perms[0]):
            raise NoPerm(k)
    if len(perms) == 0:
        raise NoPerm(0)


def made_by(perms):
    """The group of all perms that come of some perms by times, and the list of these perms."""
    ask_perms(perms)
    stay = tuple(range(len(perms[0])))
    found = reached(stay, lambda one: [perm_times(one, perm) for perm in perms], MOST_THINGS)
    if found is None:
        raise TooMany("these perms make more things than a group may have")
    return (tabled(found, perm_times), found)


def together(one, other):
    """The group of pairs of the things of two groups."""
    count = len(other)
    if len(one) * count > MOST_THINGS:
        raise TooMany("both groups together have more things than a group may have")

    def product(pair, second):
        return one[pair // count][second // count] * count + other[pair % count][second % count]

    return tabled(list(range(len(one) * count)), product)


def renamed(group, order):
    """The group whose thing number k is order[k] of this one."""
    if not is_order(order, len(group)):
        raise NoOrder("no tuple of all things of the group, 0 first")
    return tabled(order, lambda a, b: group[a][b])
