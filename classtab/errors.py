"""The refusals of the program, each straight under the base."""


class TableError(ValueError):
    """Any refusal."""


class NoGroup(TableError):
    """A thing is no group: the word says what fails first, thing where."""

    def __init__(self, word, thing):
        self.word = word
        self.thing = thing


class NoPerm(TableError):
    """The one with this number is no perm, or has other places than the first one."""

    def __init__(self, number):
        self.number = number


class NoTable(TableError):
    """A thing is no table of a group."""

    def __init__(self, word, number):
        self.word = word
        self.number = number


class NoShares(TableError):
    """A thing is no share paper of a spread."""

    def __init__(self, word, number):
        self.word = word
        self.number = number


class NoAlike(TableError):
    """A thing is no right answer on two frames."""

    def __init__(self, word):
        self.word = word


class NoLines(TableError):
    """The line with this number can't stand where it does."""

    def __init__(self, row):
        self.row = row


class NoName(TableError):
    """No group has this name."""

    def __init__(self, name):
        self.name = name


class TooMany(TableError):
    """There would be more things, or classes, than are allowed."""


class NoOrder(TableError):
    """A thing is no order of a group's things."""


class NoPart(TableError):
    """A part is not kept."""


class NoText(TableError):
    """A text writes no number."""


class NoRow(TableError):
    """A desk can't be told this row."""
