"""A desk: groups by names, told and asked by rows of text."""

from classtab.apart import told_apart
from classtab.classes import class_numbers, classes_of, sizes_of
from classtab.deskrows import names_asked, read_row
from classtab.errors import NoName, NoRow, NoTable, TooMany
from classtab.frames import frame_of
from classtab.groups import full_round
from classtab.making import made_by, together
from classtab.showing import centre, down, kept_parts, sort_of
from classtab.tablechecker import lets_table
from classtab.tables import table_of
from classtab.tabletexts import read_table, shown_numbers, shown_table

MOST_CLASSES = {"row": 16, "sort": 16, "table": 16, "kept": 16, "down": 16, "check": 16, "apart": 10}


def blanked(numbers):
    """Whole numbers by figures, parted by blanks."""
    return " ".join([str(x) for x in numbers])


def frame_by(group):
    """The frame of a group, its table sought."""
    return frame_of(group, table_of(group))


def ask_classes(word, groups):
    """Refuse groups of more classes than what the word asks of them may have."""
    for group in groups:
        if word in MOST_CLASSES and len(classes_of(group)) > MOST_CLASSES[word]:
            raise TooMany("a group has more classes than this may be asked of")


def answer_on(word, group):
    """The answer to a word that asks one group and nothing else."""
    if word == "count":
        return str(len(group))
    if word == "round":
        return str(full_round(group))
    if word == "classes":
        return blanked(sizes_of(group))
    if word == "centre":
        return str(len(centre(group)))
    if word == "down":
        return str(len(down(group, table_of(group))))
    if word == "kept":
        return str(len(kept_parts(group, table_of(group))))
    return "; ".join(shown_table(frame_by(group)))


def answer_at(word, group, k):
    """The answer to a word that asks a thing of a group or a row of its table."""
    if k >= len(group if word == "class" else classes_of(group)):
        raise NoRow("there is no such thing or row")
    if word == "class":
        return str(class_numbers(group)[k])
    row = table_of(group)[k]
    return shown_numbers(row) if word == "row" else str(sort_of(group, row))


def answer_apart(one, other):
    """Whether, and how, the one group's table can be laid upon the other's."""
    found = told_apart(frame_by(one), frame_by(other))
    return "alike " + blanked(found[1]) if found[0] == "alike" else "unlike"


def answer_check(group, text):
    """Whether lines in one text write the group's table, its rows in any order."""
    read = read_table(text.split("; "))
    if read[0] != full_round(group) or read[1] != sizes_of(group):
        return "no"
    try:
        lets_table(group, read[2])
    except NoTable:
        return "no"
    return "ok"


class Desk:
    """Groups by names."""

    def __init__(self):
        self.groups = {}

    def say(self, row):
        """The answer to a row."""
        words = read_row(row)
        word = words[0]
        asked = [self.group_of(name) for name in names_asked(words)]
        ask_classes(word, asked)
        if word == "perms":
            return self.keep(words[1], made_by(words[2:])[0])
        if word == "put":
            return self.keep(words[1], together(asked[0], asked[1]))
        if word == "drop":
            self.groups.pop(words[1])
            return "ok"
        if word == "apart":
            return answer_apart(asked[0], asked[1])
        if word == "check":
            return answer_check(asked[0], words[2])
        if len(words) == 3:
            return answer_at(word, asked[0], words[2])
        return answer_on(word, asked[0])

    def group_of(self, name):
        """The group that has a name."""
        if name not in self.groups:
            raise NoName(name)
        return self.groups[name]

    def keep(self, name, group):
        """Give a name to a group, and tell its count."""
        self.groups[name] = group
        return str(len(group))
