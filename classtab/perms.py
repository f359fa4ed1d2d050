"""PERMs: places that go to places."""

from classtab.helper import are_things

MOST_PLACES = 24


def is_perm(thing):
    """Whether any plain thing is a perm of from 1 to 24 places."""
    if not isinstance(thing, tuple) or len(thing) < 1 or len(thing) > MOST_PLACES:
        return False
    return are_things(thing, len(thing)) and len(set(thing)) == len(thing)


def perm_times(one, other):
    """The perm by which each place goes as the other one tells, and then as the one tells."""
    return tuple([one[place] for place in other])
