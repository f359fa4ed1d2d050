"""Tables as lines of text: the round and the sizes of the classes, and then row by row the numbers."""

from classtab.errors import NoLines, NoText
from classtab.helper import MOST_THINGS, is_by_figures
from classtab.numbertexts import read_number, shown_number

MOST_SIZES = 16


def shown_numbers(row):
    """The texts of a row's numbers, parted by blanks."""
    return " ".join([shown_number(number) for number in row])


def shown_table(frame):
    """The lines of a frame."""
    head = ["table", str(frame[0])] + [str(size) for size in frame[1]]
    return [" ".join(head)] + ["row " + shown_numbers(row) for row in frame[2]]


def read_table(lines):
    """The tuple (n, sizes, rows) that some lines write, perhaps no frame."""
    if len(lines) == 0:
        raise NoLines(0)
    head = read_head(lines[0])
    if head is None:
        raise NoLines(0)
    if len(lines) == 1:
        raise NoLines(1)
    rows = []
    for k in range(1, len(lines)):
        row = read_numbers(head[0], len(head) - 1, lines[k])
        if row is None:
            raise NoLines(k)
        rows.append(row)
    return (head[0], head[1:], tuple(rows))


def read_head(line):
    """The tuple of n and behind it the sizes that a first line writes, or None."""
    words = line.split(" ")
    if words[0] != "table" or len(words) < 3 or len(words) > MOST_SIZES + 2:
        return None
    if not all([is_size(word) for word in words[1:]]):
        return None
    return tuple([int(word) for word in words[1:]])


def is_size(word):
    """Whether a word is a number from 1 to 60 by figures."""
    return is_by_figures(word) and 1 <= int(word) <= MOST_THINGS


def read_numbers(n, count, line):
    """The row of so many NUMBERs of n that a line writes, or None."""
    words = line.split(" ")
    if words[0] != "row" or len(words) != count + 1:
        return None
    try:
        return tuple([read_number(n, word) for word in words[1:]])
    except NoText:
        return None
