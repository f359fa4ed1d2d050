"""NUMBERs as texts, one text each."""

from classtab.errors import NoText
from classtab.exact import places
from classtab.helper import are_figures


def shown_number(one):
    """The text of a NUMBER."""
    shown = ""
    for power, k in enumerate(one):
        if k != 0:
            sign = "+" if shown != "" and k > 0 else ""
            shown = shown + sign + shown_place(k, power)
    return "0" if shown == "" else shown


def shown_place(k, power):
    """The text of a number k, not 0, at a power of z."""
    if power == 0:
        return str(k)
    ahead = str(k)
    if abs(k) == 1:
        ahead = "" if k > 0 else "-"
    return ahead + "z" + ("" if power == 1 else str(power))


def read_number(n, text):
    """The NUMBER of n that a text writes."""
    found = [0] * places(n)
    # Each - gets a + ahead of it, so that the + alone parts the places.
    for word in text.replace("-", "+-").split("+"):
        if word != "":
            place = read_place(word)
            if place is None or place[1] >= len(found):
                raise NoText("no number stands there")
            found[place[1]] += place[0]
    # Whatever is written in another way than the one told is found out here.
    if shown_number(found) != text:
        raise NoText("the number is written in another way")
    return tuple(found)


def read_place(word):
    """The number and the power of z that a word writes, perhaps in another way than it is told; or None."""
    halves = word.partition("z")
    sign = -1 if word.startswith("-") else 1
    figures = halves[0][1:] if sign == -1 else halves[0]
    power = halves[2]
    if halves[1] == "":
        power = "0"
    elif power == "":
        power = "1"
    if halves[1] == "z" and figures == "":
        figures = "1"
    if not are_figures(figures) or not are_figures(power):
        return None
    return (sign * int(figures), int(power))
