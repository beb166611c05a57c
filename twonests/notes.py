"""Tables written as rows, and rows read to a table."""

from twonests.errors import NoNote
from twonests.tables import Nests

FIGURES = "0123456789"
MOST_FIGURES = 10
WORDS = 4


def written(table):
    """Write a table as rows."""
    rows = [f"nests {table.count} {table.first} {table.second}\n"]
    for name in table.names():
        row, place = table.where(name)
        rows.append(f"{row} {place} {name} {table.value(name)}\n")
    return "".join(rows)


def read(text):
    """Read such rows to a table."""
    head, *rest = _rows(text)
    # All rows are read before the table is made: a text of another form is refused ahead of all else.
    count, first, second = _head(head)
    things = [_thing(words) for words in rest]
    table = Nests(count, first, second)
    for name, value, nest in things:
        table.put_at(name, value, nest)
    return table


def _rows(text):
    """List the rows of a text, one at least, each as the list of its words."""
    *rows, rest = text.split("\n")
    if not rows or rest != "":
        raise NoNote("there is no row, or the last one is not ended")
    return [row.split(" ") for row in rows]


def _head(words):
    """Read the first row: a count and two multipliers."""
    if len(words) != WORDS or words[0] != "nests":
        raise NoNote(f"no first row: {words}")
    return (_number(words[1]), _number(words[2]), _number(words[3]))


def _thing(words):
    """Read a row of a taken nest: a name, a value and the nest."""
    if len(words) != WORDS or words[2] == "":
        raise NoNote(f"no row of a nest: {words}")
    return (words[2], _value(words[3]), (_number(words[0]), _number(words[1])))


def _number(word):
    """Read a number that is not below nought."""
    if word == "" or len(word) > MOST_FIGURES:
        raise NoNote(f"no number: {word}")
    for sign in word:
        if sign not in FIGURES:
            raise NoNote(f"no number: {word}")
    if word[0] == "0" and word != "0":
        raise NoNote(f"noughts ahead: {word}")
    return int(word)


def _value(word):
    """Read a number that may be below nought."""
    if not word.startswith("-"):
        return _number(word)
    if word == "-0":
        raise NoNote("nought is not below nought")
    return -_number(word[1:])
