"""The small checker of answers on two frames: what it lets by is so; it seeks nothing."""

from classtab.errors import NoAlike
from classtab.frames import fit_columns, is_match, picked, unlike_ahead
from classtab.helper import is_whole

MOST_WITHIN = 12
MOST_CASES = 4000


def lets_apart(one, other, thing):
    """True where any plain thing is a right answer on two frames, else it is refused with the fault's word."""
    if not isinstance(thing, tuple) or len(thing) != 2 or thing[0] not in ("alike", "unlike"):
        raise NoAlike("shape")
    if thing[0] == "alike" and not is_match(one, other, thing[1]):
        raise NoAlike("match")
    if thing[0] == "unlike" and not is_shown(one, other, thing[1]):
        raise NoAlike("case")
    return True


def is_shown(one, other, thing):
    """Whether any plain thing is a case that shows of two frames that they have no match."""
    waiting = [(thing, ((0, 0),))]
    met = 0
    while waiting:
        met += 1
        entry = waiting.pop()
        # A case stands within as many others as there are pairs but the first one.
        if met > MOST_CASES or len(entry[1]) > MOST_WITHIN:
            return False
        within = cases_within(one, other, entry[0], entry[1])
        if within is None:
            return False
        waiting.extend(within)
    return True


def cases_within(one, other, case, pairs):
    """The cases, each with its pairs, that are still to be looked at where a case is to show it; None if it can't."""
    if not isinstance(case, tuple):
        return None
    if case == ("unlike",):
        return [] if unlike_ahead(one, other) else None
    if len(case) == 2 and case[0] == "rows":
        return [] if has_odd_row(one, other, case[1], pairs) else None
    if len(case) == 3 and case[0] == "split":
        return split_cases(one, other, case, pairs)
    return None


def is_below(thing, count):
    """Whether a thing is a whole number from 0 to below count."""
    return is_whole(thing) and 0 <= thing < count


def has_odd_row(one, other, k, pairs):
    """Whether both frames have not as many rows that are, at the paired columns, like row k of the one."""
    if not is_below(k, len(one[2])):
        return False
    firsts = [pair[0] for pair in pairs]
    seconds = [pair[1] for pair in pairs]
    want = picked(one[2][k], firsts)
    ours = [row for row in one[2] if picked(row, firsts) == want]
    theirs = [row for row in other[2] if picked(row, seconds) == want]
    return len(ours) != len(theirs)


def split_cases(one, other, case, pairs):
    """The cases of a split, each with its pairs; None where its column or how many cases there are is wrong."""
    c = case[1]
    if not is_below(c, len(one[1])) or c in [pair[0] for pair in pairs]:
        return None
    fit = fit_columns(one, other, pairs, c)
    if not isinstance(case[2], tuple) or len(case[2]) != len(fit):
        return None
    return [(further, pairs + ((c, d),)) for further, d in zip(case[2], fit)]
