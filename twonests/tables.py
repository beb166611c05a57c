"""A table: two rows of nests, and the things that stand in them."""

from twonests.errors import NoHome, NoName, NoNest, NoNests, NoRoom, NoValue, Taken, Twice, Unknown
from twonests.names import home, is_name

MOST_NESTS = 1000
MOST_TIMES = 1000000
MOST_VALUE = 1000000000


class Nests:
    """A table; at first nothing is in it."""

    def __init__(self, count, first, second):
        if not 1 <= count <= MOST_NESTS:
            raise NoNests(f"no table has {count} nests in a row")
        for times in (first, second):
            if not 1 <= times <= MOST_TIMES:
                raise NoNests(f"no table has the multiplier {times}")
        self.count = count
        self.first = first
        self.second = second
        # The name that stands in each taken nest, and the nest and the value of each name.
        self._names = {}
        self._things = {}

    def homes(self, name):
        """Tell the two homes of a name, that in row 0 first."""
        _check_name(name)
        return ((0, home(name, self.first, self.count)), (1, home(name, self.second, self.count)))

    def at(self, nest):
        """Tell the name that stands in a nest, or None."""
        self._check_nest(nest)
        return self._names.get(nest)

    def way(self, nest):
        """List the nests from one on, each the other home of the name that stands in the one before it."""
        self._check_nest(nest)
        way = [nest]
        while way[-1] in self._names:
            other = self._other_home(way[-1])
            if other in way:
                break
            way.append(other)
        return way

    def put(self, name, value):
        """Put a thing into a home of its name, or give a name that is there another value; list the moves."""
        _check_name(name)
        _check_value(value)
        if name in self._things:
            self._stand(name, value, self.where(name))
            return []
        way = self._open_way(name)
        moves = self._moves_on(way)
        # A nest that a name leaves is taken by the next one to move, the first nest by the new name.
        for other, _, nest in moves:
            self._stand(other, self.value(other), nest)
        self._stand(name, value, way[0])
        return moves

    def put_at(self, name, value, nest):
        """Put a thing into a told nest, a free home of its name, without moves."""
        _check_name(name)
        _check_value(value)
        if name in self._things:
            raise Twice(f"{name} is there already")
        self._check_nest(nest)
        if nest not in self.homes(name):
            raise NoHome(f"{nest} is no home of {name}")
        if nest in self._names:
            raise Taken(f"{nest} is taken")
        self._stand(name, value, nest)

    def moves(self, name):
        """List the moves that a putting of a name would do."""
        if name in self._things:
            return []
        return self._moves_on(self._open_way(name))

    def crowd(self, name):
        """Tell the names and the nests that leave no room for a name, or None where there is room."""
        ways = self._ways(name)
        if name in self._things or any([self._is_open(way) for way in ways]):
            return None
        nests = sorted(set(ways[0] + ways[1]))
        names = [self._names[nest] for nest in nests]
        return (sorted(names + [name]), nests)

    def take_out(self, name):
        """Take a thing out and tell its value."""
        value = self.value(name)
        del self._names[self.where(name)]
        del self._things[name]
        return value

    def value(self, name):
        """Tell the value of a name that is there."""
        return self._thing(name)[1]

    def where(self, name):
        """Tell the nest of a name that is there."""
        return self._thing(name)[0]

    def names(self):
        """List the names in the order of their nests."""
        return [self._names[nest] for nest in sorted(self._names)]

    def many(self):
        """Tell how many things are there."""
        return len(self._things)

    def _check_nest(self, nest):
        row, place = nest
        if row not in (0, 1) or not 0 <= place < self.count:
            raise NoNest(f"there is no nest {nest}")

    def _thing(self, name):
        """Tell the nest and the value of a name that is there."""
        if name not in self._things:
            raise Unknown(f"{name} is not there")
        return self._things[name]

    def _stand(self, name, value, nest):
        """Let a thing stand in a nest, wherever it stood."""
        self._names[nest] = name
        self._things[name] = (nest, value)

    def _other_home(self, nest):
        """Tell the other home of the name that stands in a nest."""
        return self.homes(self._names[nest])[1 - nest[0]]

    def _ways(self, name):
        """List the ways from the two homes of a name, that from row 0 first."""
        return [self.way(nest) for nest in self.homes(name)]

    def _is_open(self, way):
        return way[-1] not in self._names

    def _open_way(self, name):
        """Tell the way on which names are moved so that one may be put."""
        ways = [way for way in self._ways(name) if self._is_open(way)]
        if not ways:
            raise NoRoom(f"there is no room for {name}")
        # Of ways that are as short min tells the first, that from row 0.
        return min(ways, key=len)

    def _moves_on(self, way):
        """List the moves of the names on an open way, the last one first, each to the next nest."""
        steps = range(len(way) - 1, 0, -1)
        return [(self._names[way[at - 1]], way[at - 1], way[at]) for at in steps]


def _check_name(name):
    if not is_name(name):
        raise NoName(f"{name} is no name")


def _check_value(value):
    if not -MOST_VALUE <= value <= MOST_VALUE:
        raise NoValue(f"{value} is no value")
