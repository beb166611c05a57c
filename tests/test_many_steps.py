"""Points [3] to [8]: long rows of random steps, held against a model that does what the points say word by word."""

import random
import unittest
from itertools import product

from twonests import errors
from twonests.tables import Nests

SIGNS = "abcdefghijklmnopqrstuvwxyz0123456789"


def place_of(name, times, count):
    total = 0
    for sign in name:
        total = total * times + SIGNS.index(sign) + 1
    return total % count


class Model:
    """Where each name stands and its value, and nothing else; a refusal is told as the name of its class."""

    def __init__(self, count, first, second):
        self.count, self.first, self.second = count, first, second
        self.nest_of = {}
        self.value_of = {}

    def homes(self, name):
        return ((0, place_of(name, self.first, self.count)), (1, place_of(name, self.second, self.count)))

    def at(self, nest):
        there = [name for name, other in self.nest_of.items() if other == nest]
        assert len(there) <= 1, (nest, there)
        return there[0] if there else None

    def way(self, nest):
        way = [nest]
        while True:
            name = self.at(way[-1])
            if name is None:
                return way
            one, other = self.homes(name)
            after = other if way[-1] == one else one
            if after in way:
                return way
            way = way + [after]

    def ways(self, name):
        return [self.way(nest) for nest in self.homes(name)]

    def is_open(self, way):
        return self.at(way[-1]) is None

    def chosen(self, name):
        lower, upper = self.ways(name)
        if self.is_open(lower) and self.is_open(upper):
            return upper if len(upper) < len(lower) else lower
        if self.is_open(lower):
            return lower
        return upper if self.is_open(upper) else None

    def put(self, name, value):
        if name in self.nest_of:
            self.value_of[name] = value
            return []
        way = self.chosen(name)
        if way is None:
            return "NoRoom"
        told = []
        for here, there in reversed(list(zip(way, way[1:]))):
            moved = self.at(here)
            assert self.at(there) is None
            self.nest_of[moved] = there
            told.append((moved, here, there))
        assert self.at(way[0]) is None
        self.nest_of[name] = way[0]
        self.value_of[name] = value
        return told

    def moves(self, name):
        asked = Model(self.count, self.first, self.second)
        asked.nest_of.update(self.nest_of)
        asked.value_of.update(self.value_of)
        return asked.put(name, 0)

    def crowd(self, name):
        if self.moves(name) != "NoRoom":
            return None
        nests = sorted({nest for way in self.ways(name) for nest in way})
        return (sorted([name] + [self.at(nest) for nest in nests]), nests)

    def put_at(self, name, value, nest):
        if name in self.nest_of:
            return "Twice"
        if nest[0] not in (0, 1) or nest[1] not in range(self.count):
            return "NoNest"
        if nest not in self.homes(name):
            return "NoHome"
        if self.at(nest) is not None:
            return "Taken"
        self.nest_of[name] = nest
        self.value_of[name] = value
        return None

    def take_out(self, name):
        if name not in self.nest_of:
            return "Unknown"
        del self.nest_of[name]
        return self.value_of.pop(name)

    def value(self, name):
        return self.value_of.get(name, "Unknown")

    def where(self, name):
        return self.nest_of.get(name, "Unknown")

    def names(self):
        return sorted(self.nest_of, key=self.nest_of.get)

    def many(self):
        return len(self.nest_of)


def told_by(table, ask, *told):
    try:
        return getattr(table, ask)(*told)
    except errors.NestError as error:
        return type(error).__name__


def fits(homes):
    """Whether names of these homes can all stand somewhere: no joined part has more names than nests."""
    part = {nest: nest for pair in homes for nest in pair}

    def part_of(nest):
        while part[nest] != nest:
            nest = part[nest]
        return nest

    for lower, upper in homes:
        part[part_of(lower)] = part_of(upper)
    nests, names = {}, {}
    for nest in part:
        nests[part_of(nest)] = nests.get(part_of(nest), 0) + 1
    for lower, _ in homes:
        names[part_of(lower)] = names.get(part_of(lower), 0) + 1
    return all(names[one] <= nests[one] for one in names)


class FitsTest(unittest.TestCase):
    """The measure of the tests below, held against all ways to choose homes."""

    def test_against_all_ways(self):
        chance = random.Random(1)
        found = {True: 0, False: 0}
        for _ in range(500):
            places = chance.randint(1, 4)
            many = chance.randint(0, 7)
            homes = [((0, chance.randrange(places)), (1, chance.randrange(places))) for _ in range(many)]
            told = any(len(set(nests)) == many for nests in product(*homes))
            self.assertEqual(fits(homes), told, homes)
            found[told] += 1
        self.assertGreater(min(found.values()), 100)


class StepsTest(unittest.TestCase):
    def check_told(self, table, model, ask, *told):
        answer = told_by(table, ask, *told)
        self.assertEqual(answer, getattr(model, ask)(*told), (ask, told, model.nest_of))
        return answer

    def check_all(self, table, model):
        """Check that a table tells all that its model tells, and that each name stands in one of its homes."""
        self.assertEqual(table.names(), model.names())
        self.assertEqual(table.many(), model.many())
        for name in model.nest_of:
            self.assertEqual((table.where(name), table.value(name)), (model.where(name), model.value(name)))
            self.assertIn(table.where(name), table.homes(name))
            self.assertEqual([nest for nest in table.homes(name) if table.at(nest) == name], [table.where(name)])
        for row in (0, 1):
            for place in range(table.count):
                self.assertEqual(table.at((row, place)), model.at((row, place)))
                self.assertEqual(table.way((row, place)), model.way((row, place)))

    def check_put(self, table, model, name, value):
        fitted = name in model.nest_of or fits([model.homes(other) for other in model.names() + [name]])
        self.check_told(table, model, "moves", name)
        crowd = self.check_told(table, model, "crowd", name)
        moves = self.check_told(table, model, "put", name, value)
        self.assertEqual(moves != "NoRoom", fitted)
        if fitted:
            self.assertIsNone(crowd)
            self.assertEqual(len({other for other, _, _ in moves}), len(moves))
            self.assertEqual(len({nest for _, _, nest in moves}), len(moves))
        else:
            self.check_crowd(table, name, crowd)
        return moves

    def check_crowd(self, table, name, crowd):
        names, nests = crowd
        self.assertEqual(names, sorted(set(names)))
        self.assertEqual(nests, sorted(set(nests)))
        self.assertIn(name, names)
        self.assertEqual(len(names), len(nests) + 1)
        for other in names:
            for nest in table.homes(other):
                self.assertIn(nest, nests)
        self.assertEqual(sorted(table.at(nest) for nest in nests), [other for other in names if other != name])
        self.assertFalse(fits([table.homes(other) for other in names]))

    def run_steps(self, chance, count, first, second, names, steps):
        table, model = Nests(count, first, second), Model(count, first, second)
        found = {"NoRoom": 0, "moved": 0}
        for _ in range(steps):
            name = chance.choice(names)
            ask = chance.choice(["put", "put", "put", "put_at", "put_at", "take_out", "value", "where"])
            value = chance.randint(-1000000000, 1000000000)
            if ask == "put":
                moves = self.check_put(table, model, name, value)
                found["NoRoom"] += moves == "NoRoom"
                found["moved"] += moves != "NoRoom" and len(moves) > 0
            elif ask == "put_at":
                nest = chance.choice(list(model.homes(name)) * 4 + [(chance.randint(0, 2), chance.randint(-1, count))])
                self.check_told(table, model, "put_at", name, value, nest)
            else:
                self.check_told(table, model, ask, name)
            self.check_all(table, model)
        return found

    def test_random_steps(self):
        chance = random.Random(8)
        found = {"NoRoom": 0, "moved": 0}
        for _ in range(120):
            count = chance.choice([1, 2, 3, 6, 9, 12])
            first, second = chance.sample([1, 2, 7, 31, 37, 1001, 54321, 999999, 1000000], 2)
            names = set()
            while len(names) < count * 2 + 1:
                names.add("".join(chance.choice(SIGNS) for _ in range(chance.choice([1, 2, 3, 12]))))
            told = self.run_steps(chance, count, first, second, sorted(names), 80)
            for key in told:
                found[key] += told[key]
        self.assertGreater(found["NoRoom"], 200, found)
        self.assertGreater(found["moved"], 50, found)

    def test_random_long_ways(self):
        # By the multipliers 1 and 10 the homes of a name of two signs are the sum and the last sign's number.
        chance = random.Random(7)
        lengths = {}
        for _ in range(300):
            table, model = Nests(10, 1, 10), Model(10, 1, 10)
            rows = [chance.sample(range(10), 10) for _ in range(2)]
            nests = [(at % 2, rows[at % 2][at // 2]) for at in range(20)]
            # Names from each nest to the next one, a few of which stand the other way round or go elsewhere.
            for here, there in zip(nests, nests[1:]):
                there = chance.choice([there] * 20 + nests[1 - here[0]::2])
                upper, lower = (there[1], here[1]) if here[0] == 0 else (here[1], there[1])
                name = SIGNS[(lower - upper - 1) % 10] + SIGNS[(upper - 1) % 10]
                self.assertEqual(set(table.homes(name)), {here, there})
                self.check_told(table, model, "put_at", name, upper, chance.choice([here] * 20 + [there]))
            for name in chance.sample([one + other for one in "klmnopqrst" for other in "klmnopqrst"], 4):
                moves = self.check_put(table, model, name, 5)
                if moves != "NoRoom":
                    lengths[len(moves)] = lengths.get(len(moves), 0) + 1
            self.check_all(table, model)
        for many in range(7):
            self.assertGreater(lengths[many], 10, lengths)
        self.assertGreater(max(lengths), 7)

    def test_filling_tables_until_nothing_fits(self):
        chance = random.Random(9)
        lengths = set()
        for count in range(1, 16):
            for _ in range(3):
                first, second = chance.randint(1, 1000000), chance.randint(1, 1000000)
                table, model = Nests(count, first, second), Model(count, first, second)
                for _ in range(30):
                    name = "".join(chance.choice(SIGNS) for _ in range(chance.randint(1, 12)))
                    moves = self.check_put(table, model, name, 0)
                    if moves != "NoRoom":
                        lengths.add(len(moves))
                self.check_all(table, model)
        self.assertGreater(max(lengths), 5)

    def test_thirty_things_among_a_thousand_nests(self):
        chance = random.Random(10)
        for first, second in [(1, 1000000), (1000000, 1), (31, 37), (1, 1)]:
            table, model = Nests(1000, first, second), Model(1000, first, second)
            for _ in range(30):
                name = "".join(chance.choice(SIGNS) for _ in range(chance.randint(1, 12)))
                self.check_put(table, model, name, chance.randint(-9, 9))
            self.check_all(table, model)

    def test_the_longest_way(self):
        # In a table of 15 nests a row with 1 and 15 as multipliers the homes are the sum and the last sign's number.
        # From (0, 1) the way goes over all thirty nests, but for the last one, which is free.
        table, model = Nests(15, 1, 15), Model(15, 1, 15)
        for at in range(1, 15):
            for name, nest in [("o" + SIGNS[at - 1], (0, at)), ("a" + SIGNS[at - 1], (1, at))]:
                self.check_told(table, model, "put_at", name, at, nest)
        self.check_told(table, model, "put_at", "oo", 0, (0, 0))
        self.assertEqual(len(table.way((0, 1))), 30)
        # The homes of this one are (0, 1) and (1, 13); the way from (1, 13) is shorter.
        self.assertEqual(table.homes("cm"), ((0, 1), (1, 13)))
        self.assertEqual(len(table.way((1, 13))), 5)
        self.assertEqual(len(self.check_put(table, model, "cm", 5)), 4)
        self.check_all(table, model)
        self.assertEqual(table.many(), 30)
        self.assertEqual(self.check_put(table, model, "bb", 5), "NoRoom")


if __name__ == "__main__":
    unittest.main()
