"""Two frames told apart: a match that lays the one upon the other, or a case that shows that there is none."""

from classtab.frames import fit_columns, picked, unlike_ahead


def told_apart(one, other):
    """("alike", match) or ("unlike", case) of two frames."""
    if unlike_ahead(one, other):
        return ("unlike", ("unlike",))
    return sought(one, other, ((0, 0),))


def sought(one, other, pairs):
    """The answer on two frames, of like sizes, where some columns are paired already."""
    k = odd_row(one, other, pairs)
    if k is not None:
        return ("unlike", ("rows", k))
    if len(pairs) == len(one[1]):
        return ("alike", tuple([pair[1] for pair in sorted(pairs)]))
    c = best_column(one, other, pairs)
    cases = []
    for d in fit_columns(one, other, pairs, c):
        answer = sought(one, other, pairs + ((c, d),))
        if answer[0] == "alike":
            return answer
        cases.append(answer[1])
    return ("unlike", ("split", c, tuple(cases)))


def odd_row(one, other, pairs):
    """The first row of the one that shows that no match has these pairs, or None."""
    ours = [picked(row, [pair[0] for pair in pairs]) for row in one[2]]
    theirs = [picked(row, [pair[1] for pair in pairs]) for row in other[2]]
    for k, row in enumerate(ours):
        if ours.count(row) != theirs.count(row):
            return k
    return None


def best_column(one, other, pairs):
    """The column of the one that isn't paired with the fewest columns that no row rules out at once.

    So a case stays small: what can be ruled out soon is, ahead of all that takes further splits.
    """
    taken = [pair[0] for pair in pairs]
    free = [c for c in range(len(one[1])) if c not in taken]
    return min(free, key=lambda c: weight(one, other, pairs, c))


def weight(one, other, pairs, c):
    """How many columns may still lie on a column, and how many are of its size."""
    fit = fit_columns(one, other, pairs, c)
    left = [d for d in fit if odd_row(one, other, pairs + ((c, d),)) is None]
    return (len(left), len(fit))
