"""What several modules need: whole numbers and figures, all that can be reached, things by their numbers."""

MOST_THINGS = 60


def is_whole(thing):
    """Whether a thing is a whole number; a truth is an int for Python, but none here."""
    return isinstance(thing, int) and not isinstance(thing, bool)


def are_things(thing, count):
    """Whether a thing is a tuple of whole numbers from 0 to below count."""
    return isinstance(thing, tuple) and all([is_whole(x) and 0 <= x < count for x in thing])


def is_order(thing, count):
    """Whether a thing is a tuple of all whole numbers from 0 to below count, each once, 0 first."""
    return are_things(thing, count) and len(thing) == count and len(set(thing)) == count and thing[0] == 0


def are_figures(text):
    """Whether a text is of one or more figures alone."""
    return text != "" and all([sign in "0123456789" for sign in text])


def is_by_figures(text):
    """Whether a text is a whole number by figures, with no 0 ahead but for 0 itself."""
    return are_figures(text) and (text == "0" or not text.startswith("0"))


def reached(start, onward, most):
    """The sorted list of all that comes of start by onward, which tells a list for each one.

    None where there are more than most: what is reached may be far too much to walk to its end.
    """
    seen = {start: True}
    fresh = [start]
    while fresh:
        came = []
        for one in fresh:
            for other in onward(one):
                if other not in seen:
                    seen[other] = True
                    came.append(other)
            if len(seen) > most:
                return None
        fresh = came
    return sorted(seen)


def numbered(things):
    """For each of some unlike things its number."""
    numbers = {}
    for k, thing in enumerate(things):
        numbers[thing] = k
    return numbers


def holders(bundles, count):
    """For each thing from 0 to below count the number of the bundle in which it is."""
    numbers = [0] * count
    for k, members in enumerate(bundles):
        for a in members:
            numbers[a] = k
    return tuple(numbers)


def tabled(things, product):
    """The table of some unlike things by their numbers, product(a, b) being what comes of two."""
    numbers = numbered(things)
    rows = []
    for a in things:
        rows.append(tuple([numbers[product(a, b)] for b in things]))
    return tuple(rows)
