"""Shares: how often each pure spread is in a spread, and the paper that says so."""

from classtab.classes import sizes_of
from classtab.exact import divided, gathered, scaled, whole_of
from classtab.groups import full_round
from classtab.spreads import meeting_by


def shares_of(group, table, spread):
    """For each row of the table how often it is in a spread, or None where some share is no whole number."""
    n = full_round(group)
    sizes = sizes_of(group)
    shares = []
    for row in table:
        share = divided(meeting_by(sizes, n, spread, row), len(group))
        if share is None or whole_of(share) is None:
            return None
        shares.append(whole_of(share))
    return tuple(shares)


def put_by(table, shares):
    """The sum of the rows of a table, each so many times."""
    found = []
    for c, number in enumerate(table[0]):
        found.append(gathered([row[c] for row in table], shares, scaled(number, 0)))
    return tuple(found)


def share_paper(group, table, spread):
    """The paper of a spread, its pure spreads with how often each is in it; None where it has no such shares."""
    shares = shares_of(group, table, spread)
    if shares is None or any([k < 0 for k in shares]):
        return None
    return tuple([(row, k) for row, k in zip(table, shares) if k > 0])
