"""Rows that a desk can be told: whether a text is one, and what its words mean."""

from classtab.errors import NoRow
from classtab.helper import is_by_figures

LETTERS = "abcdefghijklmnopqrstuvwxyz"
MOST_LETTERS = 8
MOST_FIGURES = 2
FORMS = {
    "put": ("word", "name", "name", "name"),
    "drop": ("word", "name"),
    "count": ("word", "name"),
    "round": ("word", "name"),
    "class": ("word", "name", "number"),
    "classes": ("word", "name"),
    "row": ("word", "name", "number"),
    "sort": ("word", "name", "number"),
    "table": ("word", "name"),
    "kept": ("word", "name"),
    "centre": ("word", "name"),
    "down": ("word", "name"),
    "apart": ("word", "name", "name"),
    "check": ("word", "name", "lines"),
}


def read_row(row):
    """The list of what the words of a row mean: texts, whole numbers, perms told as tuples (perhaps no perms)."""
    # What stands behind the name of check is one text, whatever blanks are in it.
    words = row.split(" ", 2) if row.startswith("check ") else row.split(" ")
    forms = forms_of(words)
    if len(words) != len(forms):
        raise NoRow("no row begins so and has so many words")
    return [read_word(form, word) for form, word in zip(forms, words)]


def forms_of(words):
    """The forms that the words of a row are to have, by the first one; none where no row begins so."""
    if words[0] == "perms":
        return ("word", "name") + ("perm",) * max(1, len(words) - 2)
    return FORMS.get(words[0], ())


def read_word(form, word):
    """What a word of this form means."""
    if form == "name" and not is_name(word):
        raise NoRow("a name has one to eight small letters")
    if form == "number":
        return read_short(word)
    if form == "perm":
        return tuple([read_short(figures) for figures in word.split(",")])
    return word


def is_name(word):
    """Whether a word is one to eight small letters."""
    return 1 <= len(word) <= MOST_LETTERS and all([sign in LETTERS for sign in word])


def read_short(word):
    """The whole number that one or two figures write."""
    if not is_by_figures(word) or len(word) > MOST_FIGURES:
        raise NoRow("a number has one or two figures, no 0 ahead")
    return int(word)


def names_asked(words):
    """The names in a read row that are to have a group already, in order."""
    if words[0] == "perms":
        return []
    if words[0] == "put":
        return words[2:]
    return words[1:] if words[0] == "apart" else words[1:2]
