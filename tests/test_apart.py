"""Points [1] and [8]: what was told or handed in stays as it is, and tables know nothing of one another."""

import copy
import random
import unittest

from twonests import errors
from twonests.growing import grown, moved
from twonests.notes import read, written
from twonests.tables import Nests

SIGNS = "abcdefghijklmnopqrstuvwxyz0123456789"
POOL = [one + other for one in "abcdefgh" for other in "abcdefgh"]


def some_table(count=10):
    """A table with things in both rows, in which moves, closed ways and free nests are found."""
    table = Nests(count, 1, 10)
    # The homes of the first five, and of "cb", are (0, 3) to (0, 5), (1, 1) and (1, 2).
    for at, name in enumerate(["ba", "ab", "ca", "bb", "da", "ea", "eg", "hd"]):
        table.put(name, at)
    return table


def state(table):
    nests = [(row, place) for row in (0, 1) for place in range(table.count)]
    things = [(name, table.value(name), table.where(name)) for name in table.names()]
    return (table.count, table.first, table.second, table.many(), things, [table.at(nest) for nest in nests])


def attempt(ask, *told):
    """What is told, or the class of what is refused."""
    try:
        return ask(*told)
    except errors.NestError as error:
        return type(error)


def ask_all(table):
    """All that a table tells, of each name and each nest."""
    told = [table.names(), table.many(), table.count, table.first, table.second]
    for name in POOL:
        for ask in (table.homes, table.moves, table.crowd, table.value, table.where):
            told.append(attempt(ask, name))
    for row in (0, 1):
        for place in range(table.count):
            told.append(table.way((row, place)))
            told.append(table.at((row, place)))
    told.append(written(table))
    return told


def change(table, chance, steps=60):
    """Do some steps and collect what they tell."""
    told = []
    for _ in range(steps):
        name = chance.choice(POOL)
        ask = chance.choice(["put", "put", "put_at", "take_out"])
        if ask == "put":
            told.append(attempt(table.put, name, chance.randint(-9, 9)))
        elif ask == "put_at":
            told.append(attempt(table.put_at, name, chance.randint(-9, 9), chance.choice(table.homes(name))))
        else:
            told.append(attempt(table.take_out, name))
    return told


def spoil(told):
    """Change all lists in what was told."""
    if isinstance(told, (list, tuple)):
        for part in told:
            spoil(part)
    if isinstance(told, list):
        told.reverse()
        told.append("spoilt")
        del told[0]


class OwnTest(unittest.TestCase):
    def test_the_table_used_here_has_moves_and_crowds(self):
        told = ask_all(some_table())
        self.assertTrue([one for one in told if isinstance(one, list) and one and len(one[0]) == 3])
        self.assertTrue([one for one in told if isinstance(one, tuple) and isinstance(one[0], list)])

    def test_what_was_told_stays_behind_later_steps(self):
        chance = random.Random(1)
        table = some_table()
        for _ in range(20):
            told = ask_all(table) + change(table, chance)
            kept = copy.deepcopy(told)
            change(table, chance)
            ask_all(table)
            attempt(grown, table)
            attempt(moved, table, 3, 1, 1)
            self.assertEqual(told, kept)

    def test_spoiling_what_was_told_changes_no_table(self):
        chance = random.Random(2)
        table = some_table()
        for _ in range(20):
            before = state(table)
            again = ask_all(table)
            spoil(ask_all(table))
            self.assertEqual(state(table), before)
            self.assertEqual(ask_all(table), again)
            changed = change(table, chance)
            before = state(table)
            again = ask_all(table)
            spoil(changed)
            self.assertEqual(state(table), before)
            self.assertEqual(ask_all(table), again)

    def test_each_answer_is_a_list_of_its_own(self):
        table = some_table()
        table.put("hh", 1)
        asks = [(table.names,), (table.way, (0, 1)), (table.moves, "hh"), (table.moves, "aa"), (table.put, "hh", 1)]
        for ask, *told in asks:
            one, other = ask(*told), ask(*told)
            self.assertEqual(one, other)
            self.assertIs(type(one), list)
            self.assertIsNot(one, other)
        full = Nests(1, 1, 1)
        full.put("a", 1)
        full.put("b", 1)
        one, other = full.crowd("c"), full.crowd("c")
        self.assertEqual(one, other)
        self.assertIsNot(one[0], other[0])
        self.assertIsNot(one[1], other[1])

    def test_moves_told_by_put_stay_as_the_names_go_on(self):
        table = Nests(10, 1, 10)
        # The homes: "bb" (0, 4), (1, 2); "jd" (0, 4), (1, 4); "dd" (0, 8), (1, 4).
        table.put("bb", 1)
        table.put_at("dd", 2, (1, 4))
        told = table.put("jd", 3)
        self.assertEqual(told, [("bb", (0, 4), (1, 2))])
        table.take_out("jd")
        table.take_out("bb")
        table.put("bb", 4)
        self.assertEqual(told, [("bb", (0, 4), (1, 2))])
        self.assertEqual(table.where("bb"), (0, 4))

    def test_asking_changes_nothing(self):
        table = some_table()
        before = state(table)
        one = ask_all(table)
        self.assertEqual(ask_all(table), one)
        self.assertEqual(state(table), before)


class ApartTest(unittest.TestCase):
    def test_two_tables(self):
        chance = random.Random(3)
        one, other = Nests(10, 1, 10), Nests(10, 1, 10)
        one.put("ab", 5)
        self.assertEqual(state(other), state(Nests(10, 1, 10)))
        for _ in range(20):
            before = state(other)
            change(one, chance)
            self.assertEqual(state(other), before)
            before = state(one)
            change(other, chance)
            self.assertEqual(state(one), before)

    def test_the_same_steps_give_the_same_whatever_another_table_does(self):
        lone = Nests(10, 1, 10)
        told = change(lone, random.Random(4), 300)
        one, other = Nests(10, 1, 10), Nests(10, 1, 10)
        chance, others = random.Random(4), random.Random(5)
        steps = []
        for _ in range(100):
            steps += change(one, chance, 3)
            change(other, others, 2)
        self.assertEqual(steps, told)
        self.assertEqual(state(one), state(lone))

    def check_apart(self, table, new, seed):
        chance = random.Random(seed)
        for _ in range(5):
            before = state(table)
            change(new, chance)
            spoil(ask_all(new))
            self.assertEqual(state(table), before)
            before = state(new)
            change(table, chance)
            spoil(ask_all(table))
            self.assertEqual(state(new), before)

    def test_a_table_and_those_made_of_it(self):
        for seed in range(10):
            for make in (grown, lambda table: moved(table, 10, 1, 10), lambda table: moved(table, 20, 3, 5),
                         lambda table: read(written(table))):
                table = some_table()
                change(table, random.Random(seed), 10)
                before = state(table)
                new = make(table)
                self.assertIsNot(new, table)
                self.assertEqual(state(table), before)
                self.assertEqual({name: new.value(name) for name in new.names()},
                                 {name: table.value(name) for name in table.names()})
                self.check_apart(table, new, seed)

    def test_tables_read_from_one_text(self):
        text = written(some_table())
        one, other = read(text), read(text)
        self.assertEqual(state(one), state(other))
        self.check_apart(one, other, 7)

    def test_what_is_refused_leaves_a_table_as_it_was(self):
        table = Nests(3, 1, 3)
        for name in POOL:
            attempt(table.put, name, 1)
        self.assertEqual(table.many(), 6)
        before, told = state(table), ask_all(table)
        for name in POOL:
            if name not in table.names():
                self.assertIs(attempt(table.put, name, 2), errors.NoRoom)
        self.assertIs(attempt(moved, table, 2, 1, 3), errors.NoRoom)
        self.assertIs(attempt(moved, table, 1001, 1, 3), errors.NoNests)
        self.assertEqual(state(table), before)
        self.assertEqual(ask_all(table), told)


if __name__ == "__main__":
    unittest.main()
