"""Tables made of the things of another table."""

from twonests.errors import NoRoom
from twonests.tables import MOST_NESTS, Nests


def moved(table, count, first, second):
    """Make a table of another count and other multipliers with all things of a table."""
    new = Nests(count, first, second)
    for name in table.names():
        new.put(name, table.value(name))
    return new


def grown(table):
    """Make a table with more nests, as few more as its things let it have."""
    for count in range(table.count + 1, MOST_NESTS + 1):
        try:
            return moved(table, count, table.first, table.second)
        except NoRoom:
            pass
    raise NoRoom("no table with more nests has room for all names")
