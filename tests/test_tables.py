"""Points [1] and [3] to [8]: the class Nests, by hand-worked tables."""

import unittest
from itertools import combinations

from twonests import errors, tables
from twonests.errors import NoHome, NoName, NoNest, NoNests, NoRoom, NoValue, Taken, Twice, Unknown
from twonests.tables import Nests

SIGNS = "abcdefghijklmnopqrstuvwxyz0123456789"
METHODS = ["__init__", "homes", "at", "way", "put", "put_at", "moves", "crowd", "take_out", "value", "where"]
METHODS += ["names", "many"]
NO_NAMES = ["", "A", "nesT", "a b", " a", "a ", "a-b", "a_b", "a\n", "a\tb", "a" * 13, "~", "9" * 13]
NO_VALUES = [-1000000001, 1000000001, -10**10, 10**10, 10**30]


def ten():
    """A table in which the homes of a name of two signs are the sum of their numbers and the last one's, by 10."""
    return Nests(10, 1, 10)


def named(lower, upper, kind=0):
    """A name with the homes (0, lower) and (1, upper) in ten(); each of the kinds 0 to 2 is another name."""
    return SIGNS[(lower - upper - 1) % 10 + 10 * kind] + SIGNS[(upper - 1) % 10 + 10 * kind]


def filled(things):
    """A ten() with things put into told nests: each given by its home there and its other home."""
    table = ten()
    for at, (here, there) in enumerate(things):
        name = named(here[1], there[1]) if here[0] == 0 else named(there[1], here[1])
        table.put_at(name, at, here)
    return table


def all_nests(table):
    return [(row, place) for row in (0, 1) for place in range(table.count)]


def state(table):
    """All that can be seen of a table."""
    things = [(name, table.where(name), table.value(name)) for name in table.names()]
    nests = [(nest, table.at(nest), table.way(nest)) for nest in all_nests(table)]
    return (table.count, table.first, table.second, table.many(), things, nests)


class TableTest(unittest.TestCase):
    def refused(self, kind, table, ask, *told):
        """Check that a table refuses with this very class, and that this changes nothing."""
        before = state(table)
        with self.assertRaises(errors.NestError) as caught:
            getattr(table, ask)(*told)
        self.assertIs(type(caught.exception), kind, (ask, told))
        self.assertEqual(state(table), before, (ask, told))


class NewTest(TableTest):
    def test_is_defined_in_its_file(self):
        self.assertEqual(Nests.__module__, "twonests.tables")
        self.assertIs(tables.Nests, Nests)

    def test_each_method_is_defined_in_the_class_itself(self):
        for method in METHODS:
            self.assertIn(method, vars(Nests))

    def test_fields(self):
        for count, first, second in [(1, 1, 1), (10, 31, 37), (1000, 1000000, 1), (7, 1, 1000000)]:
            table = Nests(count, first, second)
            self.assertEqual((table.count, table.first, table.second), (count, first, second))

    def test_arguments_have_their_names(self):
        table = Nests(count=10, first=3, second=5)
        self.assertEqual((table.count, table.first, table.second), (10, 3, 5))
        self.assertEqual(table.put(name="a", value=4), [])
        self.assertIsNone(table.put_at(name="b", value=5, nest=(0, 2)))
        self.assertEqual(table.homes(name="a"), ((0, 1), (1, 1)))
        self.assertEqual(table.at(nest=(0, 1)), "a")
        self.assertEqual(table.way(nest=(0, 1)), [(0, 1), (1, 1)])
        self.assertEqual(table.moves(name="a"), [])
        self.assertIsNone(table.crowd(name="a"))
        self.assertEqual(table.value(name="a"), 4)
        self.assertEqual(table.where(name="a"), (0, 1))
        self.assertEqual(table.take_out(name="a"), 4)

    def test_nothing_is_in_it(self):
        for count in (1, 2, 1000):
            table = Nests(count, 1, 1000000)
            self.assertEqual(table.names(), [])
            self.assertEqual(table.many(), 0)
            for nest in all_nests(table):
                self.assertIsNone(table.at(nest))
                self.assertEqual(table.way(nest), [nest])

    def test_limits(self):
        for count in (1, 2, 999, 1000):
            for first in (1, 2, 999999, 1000000):
                for second in (1, 2, 999999, 1000000):
                    self.assertEqual(Nests(count, first, second).count, count)

    def test_beyond_the_limits(self):
        good = {"count": 10, "first": 31, "second": 37}
        wrong = {"count": [0, 1001, -1, -1000, 10**12], "first": [0, 1000001, -1, -31, 10**12]}
        wrong["second"] = wrong["first"]
        for many in (1, 2, 3):
            for fields in combinations(sorted(wrong), many):
                for at in range(5):
                    told = dict(good)
                    for field in fields:
                        told[field] = wrong[field][at]
                    with self.subTest(told=told):
                        with self.assertRaises(NoNests) as caught:
                            Nests(told["count"], told["first"], told["second"])
                        self.assertIs(type(caught.exception), NoNests)


class HomesTest(TableTest):
    def test_by_hand(self):
        # 14; 14 * 31 + 5 = 439, 39; 39 * 31 + 19 = 1228, 28; 28 * 31 + 20 = 888, 88
        # 14; 14 + 5 = 19; 38; 58
        self.assertEqual(Nests(100, 31, 1).homes("nest"), ((0, 88), (1, 58)))
        self.assertEqual(Nests(100, 1, 31).homes("nest"), ((0, 58), (1, 88)))

    def test_kinds(self):
        homes = Nests(100, 31, 1).homes("nest")
        self.assertIs(type(homes), tuple)
        for nest in homes:
            self.assertIs(type(nest), tuple)
            for number in nest:
                self.assertIs(type(number), int)

    def test_multipliers_one_and_a_million(self):
        # By 1000 and by 10 a multiplier of 1000000 leaves the last sign's number alone.
        self.assertEqual(Nests(1000, 1, 1000000).homes("nest"), ((0, 58), (1, 20)))
        self.assertEqual(Nests(1000, 1000000, 1).homes("nest"), ((0, 20), (1, 58)))
        self.assertEqual(Nests(10, 1000000, 1000000).homes("nest"), ((0, 0), (1, 0)))

    def test_names_of_one_and_of_twelve_signs(self):
        self.assertEqual(Nests(1000, 1, 1000000).homes("a"), ((0, 1), (1, 1)))
        self.assertEqual(Nests(1000, 1, 1000000).homes("9"), ((0, 36), (1, 36)))
        self.assertEqual(Nests(1000, 10, 1).homes("zzzzzzzzzzzz"), ((0, 886), (1, 312)))
        self.assertEqual(Nests(1000, 1, 1000000).homes("999999999999"), ((0, 432), (1, 36)))

    def test_count_one(self):
        for name in ("a", "9", "nest", "999999999999"):
            self.assertEqual(Nests(1, 31, 37).homes(name), ((0, 0), (1, 0)))

    def test_are_the_same_whatever_is_there(self):
        table = ten()
        before = table.homes("ab")
        table.put("ab", 1)
        table.put("kl", 1)
        self.assertEqual(table.homes("ab"), before)
        table.take_out("ab")
        self.assertEqual(table.homes("ab"), before)

    def test_the_helper_named(self):
        for lower in range(10):
            for upper in range(10):
                names = {named(lower, upper, kind) for kind in range(3)}
                self.assertEqual(len(names), 3)
                for name in names:
                    self.assertEqual(ten().homes(name), ((0, lower), (1, upper)))

    def test_refuses(self):
        table = ten()
        table.put("a", 1)
        for name in NO_NAMES:
            self.refused(NoName, table, "homes", name)


class AtTest(TableTest):
    def test_taken_and_free_nests(self):
        table = ten()
        table.put_at("a", 5, (1, 1))
        table.put_at("j", 6, (0, 0))
        for nest in all_nests(table):
            self.assertEqual(table.at(nest), {(1, 1): "a", (0, 0): "j"}.get(nest))

    def test_the_first_and_the_last_nests(self):
        table = Nests(1000, 1, 1000000)
        for nest in [(0, 0), (0, 999), (1, 0), (1, 999)]:
            self.assertIsNone(table.at(nest))
            self.assertEqual(table.way(nest), [nest])

    def test_refuses_a_nest_that_there_is_not(self):
        for count in (1, 10, 1000):
            table = Nests(count, 1, 10)
            table.put("a", 1)
            for nest in [(0, -1), (1, -1), (0, count), (1, count), (2, 0), (-1, 0), (-2, 0), (2, count), (0, 10**6)]:
                self.refused(NoNest, table, "at", nest)
                self.refused(NoNest, table, "way", nest)


class WayTest(TableTest):
    def test_of_a_free_nest(self):
        table = filled([((0, 3), (1, 4))])
        self.assertEqual(table.way((0, 4)), [(0, 4)])
        self.assertEqual(table.way((1, 3)), [(1, 3)])
        self.assertEqual(table.way((1, 4)), [(1, 4)])

    def test_ends_in_a_free_nest(self):
        table = filled([((0, 3), (1, 4)), ((1, 4), (0, 5)), ((0, 5), (1, 9)), ((1, 7), (0, 3))])
        self.assertEqual(table.way((0, 3)), [(0, 3), (1, 4), (0, 5), (1, 9)])
        self.assertEqual(table.way((1, 4)), [(1, 4), (0, 5), (1, 9)])
        self.assertEqual(table.way((0, 5)), [(0, 5), (1, 9)])
        self.assertEqual(table.way((1, 9)), [(1, 9)])
        self.assertEqual(table.way((1, 7)), [(1, 7), (0, 3), (1, 4), (0, 5), (1, 9)])

    def test_ends_because_the_first_nest_stands_in_the_list(self):
        table = ten()
        table.put_at(named(2, 6), 0, (0, 2))
        table.put_at(named(2, 6, 1), 0, (1, 6))
        self.assertEqual(table.way((0, 2)), [(0, 2), (1, 6)])
        self.assertEqual(table.way((1, 6)), [(1, 6), (0, 2)])

    def test_ends_because_a_later_nest_stands_in_the_list(self):
        circle = [((0, 2), (1, 6)), ((1, 6), (0, 1)), ((0, 1), (1, 3)), ((1, 3), (0, 2))]
        table = filled([((0, 8), (1, 8)), ((1, 8), (0, 2))] + circle)
        around = [(0, 2), (1, 6), (0, 1), (1, 3)]
        self.assertEqual(table.way((0, 8)), [(0, 8), (1, 8)] + around)
        self.assertEqual(table.way((1, 8)), [(1, 8)] + around)
        for at in range(4):
            self.assertEqual(table.way(around[at]), around[at:] + around[:at])

    def test_where_all_stand_in_the_only_nests(self):
        table = Nests(1, 5, 7)
        table.put_at("a", 0, (1, 0))
        self.assertEqual(table.way((1, 0)), [(1, 0), (0, 0)])
        self.assertEqual(table.way((0, 0)), [(0, 0)])
        table.put_at("b", 0, (0, 0))
        self.assertEqual(table.way((1, 0)), [(1, 0), (0, 0)])
        self.assertEqual(table.way((0, 0)), [(0, 0), (1, 0)])

    def test_kinds(self):
        way = filled([((0, 3), (1, 4))]).way((0, 3))
        self.assertIs(type(way), list)
        for nest in way:
            self.assertIs(type(nest), tuple)

    def test_asking_changes_nothing(self):
        table = filled([((0, 3), (1, 4)), ((1, 4), (0, 5))])
        before = state(table)
        table.way((0, 3))
        table.moves(named(3, 9))
        table.crowd(named(3, 9))
        table.homes("zzz")
        self.assertEqual(state(table), before)


class PutTest(TableTest):
    def put(self, table, name, told, nest):
        """Check the moves that are told ahead and told, and where each thing stands then."""
        stands = {other: (table.where(other), table.value(other)) for other in table.names()}
        self.assertEqual(table.moves(name), told)
        self.assertIsNone(table.crowd(name))
        moves = table.put(name, 77)
        self.assertEqual(moves, told)
        self.assertIs(type(moves), list)
        for other, here, there in moves:
            self.assertEqual(stands[other][0], here)
            stands[other] = (there, stands[other][1])
        stands[name] = (nest, 77)
        self.assertEqual({other: (table.where(other), table.value(other)) for other in table.names()}, stands)
        self.assertEqual(table.many(), len(stands))
        for here in all_nests(table):
            names = [other for other in stands if stands[other][0] == here]
            self.assertEqual(names, [table.at(here)] if names else [])
            self.assertEqual(table.at(here) is None, not names)

    def test_both_homes_free(self):
        self.put(ten(), named(4, 7), [], (0, 4))

    def test_only_the_home_in_row_1_free(self):
        self.put(filled([((0, 4), (1, 2))]), named(4, 7), [], (1, 7))

    def test_only_the_home_in_row_0_free(self):
        self.put(filled([((1, 7), (0, 2))]), named(4, 7), [], (0, 4))

    def test_a_way_of_two_from_row_0(self):
        # The way from row 1 has three nests.
        table = filled([((0, 4), (1, 2)), ((1, 7), (0, 1)), ((0, 1), (1, 0))])
        self.put(table, named(4, 7), [(named(4, 2), (0, 4), (1, 2))], (0, 4))

    def test_a_way_of_two_from_row_1(self):
        table = filled([((0, 4), (1, 2)), ((1, 2), (0, 8)), ((1, 7), (0, 1))])
        self.put(table, named(4, 7), [(named(1, 7), (1, 7), (0, 1))], (1, 7))

    def test_like_ways_of_two(self):
        table = filled([((1, 7), (0, 1)), ((0, 4), (1, 2))])
        self.put(table, named(4, 7), [(named(4, 2), (0, 4), (1, 2))], (0, 4))

    def test_like_ways_of_three(self):
        table = filled([((1, 7), (0, 1)), ((0, 1), (1, 3)), ((0, 4), (1, 2)), ((1, 2), (0, 5))])
        told = [(named(5, 2), (1, 2), (0, 5)), (named(4, 2), (0, 4), (1, 2))]
        self.put(table, named(4, 7), told, (0, 4))

    def test_several_names_from_row_0_as_the_other_way_is_longer(self):
        lower = [((0, 4), (1, 2)), ((1, 2), (0, 5)), ((0, 5), (1, 9))]
        upper = [((1, 7), (0, 1)), ((0, 1), (1, 3)), ((1, 3), (0, 6)), ((0, 6), (1, 0))]
        told = [(named(5, 9), (0, 5), (1, 9)), (named(5, 2), (1, 2), (0, 5)), (named(4, 2), (0, 4), (1, 2))]
        self.put(filled(lower + upper), named(4, 7), told, (0, 4))

    def test_several_names_from_row_1_as_the_other_way_is_longer(self):
        lower = [((0, 4), (1, 2)), ((1, 2), (0, 5)), ((0, 5), (1, 9)), ((1, 9), (0, 9))]
        upper = [((1, 7), (0, 1)), ((0, 1), (1, 3)), ((1, 3), (0, 6))]
        told = [(named(6, 3), (1, 3), (0, 6)), (named(1, 3), (0, 1), (1, 3)), (named(1, 7), (1, 7), (0, 1))]
        self.put(filled(lower + upper), named(4, 7), told, (1, 7))

    def test_the_longer_way_from_row_0_where_the_other_is_closed(self):
        lower = [((0, 4), (1, 2)), ((1, 2), (0, 5)), ((0, 5), (1, 9))]
        table = filled(lower + [((1, 7), (0, 1)), ((0, 1), (1, 3))])
        table.put_at(named(1, 3, 1), 5, (1, 3))
        self.assertEqual(table.way((1, 7)), [(1, 7), (0, 1), (1, 3)])
        told = [(named(5, 9), (0, 5), (1, 9)), (named(5, 2), (1, 2), (0, 5)), (named(4, 2), (0, 4), (1, 2))]
        self.put(table, named(4, 7), told, (0, 4))

    def test_the_longer_way_from_row_1_where_the_other_is_closed(self):
        table = filled([((0, 4), (1, 2)), ((1, 7), (0, 1)), ((0, 1), (1, 3)), ((1, 3), (0, 6))])
        table.put_at(named(4, 2, 1), 5, (1, 2))
        self.assertEqual(table.way((0, 4)), [(0, 4), (1, 2)])
        told = [(named(6, 3), (1, 3), (0, 6)), (named(1, 3), (0, 1), (1, 3)), (named(1, 7), (1, 7), (0, 1))]
        self.put(table, named(4, 7), told, (1, 7))

    def test_a_way_through_the_other_home(self):
        # From (0, 4) the way goes on over (1, 7), which is the other home of the name.
        table = filled([((0, 4), (1, 7)), ((1, 7), (0, 1)), ((0, 1), (1, 3))])
        told = [(named(1, 3), (0, 1), (1, 3)), (named(1, 7), (1, 7), (0, 1))]
        self.put(table, named(4, 7, 1), told, (1, 7))

    def test_three_names_of_the_same_homes(self):
        table = ten()
        self.put(table, named(4, 7), [], (0, 4))
        self.put(table, named(4, 7, 1), [], (1, 7))
        self.refused(NoRoom, table, "put", named(4, 7, 2), 3)

    def test_a_row_of_puts(self):
        table = ten()
        self.put(table, named(1, 1), [], (0, 1))
        self.put(table, named(1, 2), [], (1, 2))
        # From (0, 1) the way has two nests, from (1, 2) over (0, 1) it has three.
        self.put(table, named(1, 2, 1), [(named(1, 1), (0, 1), (1, 1))], (0, 1))
        self.put(table, named(2, 1), [], (0, 2))
        self.assertEqual(table.way((0, 2)), [(0, 2), (1, 1), (0, 1), (1, 2)])
        self.assertEqual(table.way((1, 2)), [(1, 2), (0, 1)])
        self.refused(NoRoom, table, "put", named(2, 2), 50)
        self.assertEqual(table.names(), [named(1, 2, 1), named(2, 1), named(1, 1), named(1, 2)])
        # With (0, 1) free the way from (1, 2) has two nests, that from (0, 2) three.
        table.take_out(named(1, 2, 1))
        self.put(table, named(2, 2), [(named(1, 2), (1, 2), (0, 1))], (1, 2))
        self.assertEqual(table.names(), [named(1, 2), named(2, 1), named(1, 1), named(2, 2)])

    def test_again_gives_another_value_and_moves_nothing(self):
        table = filled([((0, 4), (1, 2)), ((1, 7), (0, 1)), ((0, 1), (1, 0))])
        table.put(named(4, 7), 5)
        where = [(name, table.where(name)) for name in table.names()]
        for value in (6, -6, 0, 1000000000, -1000000000, 6, 6):
            for name in table.names():
                self.assertEqual(table.moves(name), [])
                self.assertEqual(table.put(name, value), [])
                self.assertEqual(table.value(name), value)
        self.assertEqual([(name, table.where(name)) for name in table.names()], where)
        self.assertEqual(table.many(), 4)

    def test_again_changes_no_other_value(self):
        table = filled([((0, 4), (1, 2)), ((1, 7), (0, 1))])
        table.put(named(4, 2), 50)
        self.assertEqual([table.value(named(4, 2)), table.value(named(1, 7))], [50, 1])

    def test_again_where_the_table_is_full(self):
        table = Nests(1, 1, 1)
        table.put("a", 1)
        table.put("b", 2)
        self.assertEqual(table.put("a", 3), [])
        self.assertEqual(table.put("b", 4), [])
        self.assertEqual([table.value("a"), table.value("b")], [3, 4])
        self.assertEqual([table.where("a"), table.where("b")], [(0, 0), (1, 0)])

    def test_values_move_with_their_names(self):
        table = filled([((0, 4), (1, 2)), ((1, 2), (0, 5)), ((1, 7), (0, 1)), ((0, 1), (1, 3)), ((1, 3), (0, 8))])
        table.put(named(4, 7), -9)
        self.assertEqual([table.value(named(*homes)) for homes in [(4, 2), (5, 2), (1, 7), (1, 3), (8, 3)]],
                         [0, 1, 2, 3, 4])

    def test_limits(self):
        for count, first, second in [(1, 1, 1000000), (1000, 1000000, 1), (1000, 1, 1), (1000, 1000000, 1000000)]:
            for name in ("a", "9", "abcdefghijkl", "999999999999"):
                for value in (-1000000000, -999999999, 0, 999999999, 1000000000):
                    table = Nests(count, first, second)
                    self.assertEqual(table.put(name, value), [])
                    self.assertEqual(table.value(name), value)
                    self.assertEqual(table.where(name), table.homes(name)[0])
                    self.assertEqual(table.at(table.homes(name)[0]), name)

    def test_the_last_places_of_a_thousand(self):
        # 27; 27 * 36 + 27 = 999
        table = Nests(1000, 36, 1)
        self.assertEqual(table.homes("00"), ((0, 999), (1, 54)))
        self.assertEqual(table.put("00", 1), [])
        self.assertEqual(table.at((0, 999)), "00")
        table = Nests(1000, 1, 36)
        table.put_at("00", 1, (1, 999))
        self.assertEqual(table.at((1, 999)), "00")

    def test_a_full_table(self):
        table = ten()
        names = [named(place, place) for place in range(10)] + [named(place, (place + 1) % 10) for place in range(10)]
        for name in names:
            self.assertEqual(table.put(name, 1), [])
        self.assertEqual(table.many(), 20)
        self.assertEqual(table.names(), names[:10] + names[19:] + names[10:19])
        for nest in all_nests(table):
            self.assertIsNotNone(table.at(nest))
        for name in ("a", "zzz", named(3, 4, 1), "999999999999"):
            self.refused(NoRoom, table, "put", name, 0)
            self.refused(NoRoom, table, "moves", name)

    def test_thirty_things_in_fifteen_nests_a_row(self):
        table = Nests(15, 1, 15)
        for at in range(15):
            table.put(SIGNS[14] + SIGNS[at], at)
            table.put("a" + SIGNS[at], -at)
        self.assertEqual(table.many(), 30)
        self.assertEqual(len(table.names()), 30)
        self.refused(NoRoom, table, "put", "bb", 0)

    def test_refuses(self):
        table = filled([((0, 4), (1, 2)), ((1, 2), (0, 5))])
        for name in NO_NAMES:
            self.refused(NoName, table, "put", name, 5)
            self.refused(NoName, table, "moves", name)
            for value in NO_VALUES:
                self.refused(NoName, table, "put", name, value)
        for value in NO_VALUES:
            self.refused(NoValue, table, "put", "a", value)
            self.refused(NoValue, table, "put", named(4, 2), value)

    def test_refuses_where_there_is_no_room(self):
        table = Nests(1, 31, 37)
        table.put("a", 1)
        table.put("b", 2)
        for name in ("c", "999999999999"):
            self.refused(NoRoom, table, "put", name, 5)
            self.refused(NoRoom, table, "moves", name)
            for value in NO_VALUES:
                self.refused(NoValue, table, "put", name, value)
        for name in NO_NAMES:
            self.refused(NoName, table, "put", name, NO_VALUES[0])
            self.refused(NoName, table, "moves", name)


class PutAtTest(TableTest):
    def test_puts_into_each_home(self):
        for nest, other in [((0, 4), (1, 7)), ((1, 7), (0, 4))]:
            table = ten()
            self.assertIsNone(table.put_at(named(4, 7), -5, nest))
            self.assertEqual(table.where(named(4, 7)), nest)
            self.assertEqual(table.value(named(4, 7)), -5)
            self.assertEqual(table.at(nest), named(4, 7))
            self.assertIsNone(table.at(other))
            self.assertEqual(table.names(), [named(4, 7)])

    def test_moves_nothing(self):
        table = filled([((0, 4), (1, 2)), ((1, 2), (0, 5))])
        before = [(name, table.where(name), table.value(name)) for name in table.names()]
        table.put_at(named(4, 7), 9, (1, 7))
        after = [(name, table.where(name), table.value(name)) for name in table.names() if name != named(4, 7)]
        self.assertEqual(after, before)

    def test_limits(self):
        for name in ("a", "9", "999999999999"):
            for value in (-1000000000, 0, 1000000000):
                for count in (1, 1000):
                    for row in (0, 1):
                        table = Nests(count, 1000000, 1)
                        nest = table.homes(name)[row]
                        table.put_at(name, value, nest)
                        self.assertEqual((table.where(name), table.value(name)), (nest, value))

    def test_fills_the_only_nests(self):
        table = Nests(1, 1, 1)
        table.put_at("b", 1, (1, 0))
        table.put_at("a", 2, (0, 0))
        self.assertEqual(table.names(), ["a", "b"])

    def test_refuses_each(self):
        table = filled([((0, 4), (1, 2)), ((1, 7), (0, 5))])
        for name in NO_NAMES:
            self.refused(NoName, table, "put_at", name, 5, (0, 4))
        for value in NO_VALUES:
            self.refused(NoValue, table, "put_at", named(4, 7), value, (0, 4))
        for nest in [(0, 4), (1, 2)]:
            self.refused(Twice, table, "put_at", named(4, 2), 5, nest)
        for nest in [(0, 10), (1, 10), (0, -1), (1, -3), (2, 4), (-1, 7), (2, 7), (0, 1000)]:
            self.refused(NoNest, table, "put_at", named(4, 7, 1), 5, nest)
        for nest in [(1, 4), (0, 7), (0, 5), (1, 2), (0, 0), (1, 9)]:
            self.refused(NoHome, table, "put_at", named(4, 7), 5, nest)
        for nest in [(0, 4), (1, 7)]:
            self.refused(Taken, table, "put_at", named(4, 7), 5, nest)

    def test_refuses_the_first_of_several(self):
        # named(4, 2) is there in (0, 4). named(4, 7) is not; its home (0, 4) is taken.
        table = filled([((0, 4), (1, 2))])
        nests = {"good": (1, 7), "taken": (0, 4), "no home": (0, 7), "no nest": (0, 10), "no row": (2, 4)}
        for key, nest in nests.items():
            for name in NO_NAMES:
                for value in [5] + NO_VALUES:
                    self.refused(NoName, table, "put_at", name, value, nest)
            for name in (named(4, 2), named(4, 7)):
                for value in NO_VALUES:
                    self.refused(NoValue, table, "put_at", name, value, nest)
            self.refused(Twice, table, "put_at", named(4, 2), 5, nest)
        self.refused(NoNest, table, "put_at", named(4, 7), 5, nests["no nest"])
        self.refused(NoNest, table, "put_at", named(4, 7), 5, nests["no row"])
        # A nest that is no home and that is taken.
        self.refused(NoHome, table, "put_at", named(5, 7), 5, nests["taken"])
        self.refused(NoHome, table, "put_at", named(4, 7), 5, nests["no home"])
        self.refused(Taken, table, "put_at", named(4, 7), 5, nests["taken"])

    def test_refuses_in_a_full_table(self):
        table = Nests(1, 1, 1)
        table.put("a", 1)
        table.put("b", 2)
        self.refused(Taken, table, "put_at", "c", 5, (0, 0))
        self.refused(Taken, table, "put_at", "c", 5, (1, 0))
        self.refused(NoNest, table, "put_at", "c", 5, (0, 1))
        self.refused(Twice, table, "put_at", "a", 5, (0, 1))


class CrowdTest(TableTest):
    def test_none_where_there_is_room(self):
        table = filled([((0, 4), (1, 2)), ((1, 7), (0, 4))])
        self.assertIsNone(table.crowd(named(0, 0)))
        self.assertIsNone(table.crowd(named(4, 7)))
        self.assertIsNone(table.crowd(named(4, 0)))
        self.assertIsNone(table.crowd(named(4, 2, 1)))
        self.assertIsNone(ten().crowd("a"))

    def test_none_where_the_name_is_there(self):
        table = Nests(1, 1, 1)
        table.put("a", 1)
        table.put("b", 2)
        self.assertIsNone(table.crowd("a"))
        self.assertIsNone(table.crowd("b"))

    def test_the_only_nests(self):
        table = Nests(1, 1, 1)
        table.put("c", 1)
        table.put("a", 2)
        self.assertEqual(table.crowd("b"), (["a", "b", "c"], [(0, 0), (1, 0)]))
        self.assertEqual(table.crowd("zz"), (["a", "c", "zz"], [(0, 0), (1, 0)]))
        # The order of texts: figures ahead of letters, what a text begins with ahead of it.
        self.assertEqual(table.crowd("9"), (["9", "a", "c"], [(0, 0), (1, 0)]))
        self.assertEqual(table.crowd("aa"), (["a", "aa", "c"], [(0, 0), (1, 0)]))

    def test_both_ways_in_one_circle(self):
        table = filled([((0, 2), (1, 6)), ((1, 6), (0, 1)), ((0, 1), (1, 3)), ((1, 3), (0, 2)), ((0, 8), (1, 8))])
        names = sorted([named(2, 6), named(1, 6), named(1, 3), named(2, 3), named(1, 6, 1)])
        self.assertEqual(table.crowd(named(1, 6, 1)), (names, [(0, 1), (0, 2), (1, 3), (1, 6)]))

    def test_two_circles_and_their_ways_there(self):
        table = filled([((0, 8), (1, 8)), ((1, 8), (0, 2)), ((0, 2), (1, 6)), ((1, 5), (0, 5)), ((0, 9), (1, 9))])
        table.put_at(named(2, 6, 1), 0, (1, 6))
        self.assertIsNone(table.crowd(named(8, 5)))
        table.put_at(named(5, 5, 1), 0, (0, 5))
        there = [named(8, 8), named(2, 8), named(2, 6), named(2, 6, 1), named(5, 5), named(5, 5, 1)]
        nests = [(0, 2), (0, 5), (0, 8), (1, 5), (1, 6), (1, 8)]
        told = table.crowd(named(8, 5))
        self.assertEqual(told, (sorted(there + [named(8, 5)]), nests))
        self.refused(NoRoom, table, "put", named(8, 5), 1)

    def test_is_no_larger_than_the_ways(self):
        # The circle of (0, 8) and (1, 8) is full, too, but on neither way.
        table = filled([((0, 2), (1, 6)), ((0, 8), (1, 8))])
        table.put_at(named(2, 6, 1), 0, (1, 6))
        table.put_at(named(8, 8, 1), 0, (1, 8))
        names = sorted([named(2, 6, kind) for kind in range(3)])
        self.assertEqual(table.crowd(named(2, 6, 2)), (names, [(0, 2), (1, 6)]))

    def test_kinds(self):
        table = Nests(1, 1, 1)
        table.put("a", 1)
        table.put("b", 2)
        told = table.crowd("c")
        self.assertEqual([type(part) for part in (told, told[0], told[1])], [tuple, list, list])
        for nest in told[1]:
            self.assertIs(type(nest), tuple)

    def test_refuses(self):
        full = Nests(1, 1, 1)
        full.put("a", 1)
        full.put("b", 2)
        for table in (ten(), full):
            for name in NO_NAMES:
                self.refused(NoName, table, "crowd", name)


class TakeOutTest(TableTest):
    def test_is_there_no_more(self):
        table = filled([((0, 4), (1, 2)), ((1, 7), (0, 5))])
        self.assertEqual(table.take_out(named(5, 7)), 1)
        self.assertEqual(table.names(), [named(4, 2)])
        self.assertEqual(table.many(), 1)
        self.assertIsNone(table.at((1, 7)))
        self.assertIsNone(table.at((0, 5)))
        for ask in ("take_out", "value", "where"):
            self.refused(Unknown, table, ask, named(5, 7))
        self.assertEqual(table.take_out(named(4, 2)), 0)
        self.assertEqual(state(table), state(ten()))

    def test_may_be_put_again(self):
        table = filled([((1, 7), (0, 4))])
        self.assertEqual(table.take_out(named(4, 7)), 0)
        self.assertEqual(table.put(named(4, 7), 6), [])
        self.assertEqual((table.where(named(4, 7)), table.value(named(4, 7))), ((0, 4), 6))
        self.assertEqual(table.take_out(named(4, 7)), 6)
        table.put_at(named(4, 7), 8, (1, 7))
        self.assertEqual((table.where(named(4, 7)), table.value(named(4, 7))), ((1, 7), 8))

    def test_makes_room(self):
        table = Nests(1, 1, 1)
        table.put("a", 1)
        table.put("b", 2)
        self.refused(NoRoom, table, "put", "c", 3)
        self.assertEqual(table.take_out("a"), 1)
        self.assertIsNone(table.crowd("c"))
        self.assertEqual(table.put("c", 3), [])
        self.assertEqual(table.names(), ["c", "b"])
        self.refused(NoRoom, table, "put", "a", 1)

    def test_a_moved_name(self):
        table = filled([((0, 4), (1, 2)), ((1, 7), (0, 5))])
        self.assertEqual(table.put(named(4, 7), 9), [(named(4, 2), (0, 4), (1, 2))])
        self.assertEqual(table.take_out(named(4, 2)), 0)
        self.assertIsNone(table.at((1, 2)))
        self.assertEqual(table.at((0, 4)), named(4, 7))

    def test_the_value_told_last(self):
        table = ten()
        for value in (-1000000000, 0, 1000000000):
            table.put("a", 3)
            table.put("a", value)
            self.assertEqual(table.take_out("a"), value)

    def test_refuses_what_is_not_there(self):
        table = filled([((0, 4), (1, 2))])
        for name in [named(4, 2, 1), "a", "999999999999"] + NO_NAMES:
            for ask in ("take_out", "value", "where"):
                self.refused(Unknown, table, ask, name)
                self.refused(Unknown, ten(), ask, name)


class NamesTest(TableTest):
    def test_in_the_order_of_their_nests(self):
        table = ten()
        homes = [((1, 9), (0, 0)), ((0, 9), (1, 1)), ((1, 0), (0, 1)), ((0, 0), (1, 2)), ((0, 3), (1, 3))]
        for here, there in homes:
            places = (here[1], there[1]) if here[0] == 0 else (there[1], here[1])
            table.put_at(named(*places), 0, here)
        self.assertEqual(table.names(), [named(0, 2), named(3, 3), named(9, 1), named(1, 0), named(0, 9)])
        self.assertEqual(table.many(), 5)

    def test_places_are_numbers_not_texts(self):
        table = Nests(1000, 1, 1)
        for name in ("z", "b", "9999", "aa9"):
            table.put(name, 0)
        self.assertEqual([table.where(name)[1] for name in table.names()], [2, 26, 38, 144])

    def test_order_does_not_hang_on_the_order_of_puts(self):
        names = [named(place, (place * 3) % 10) for place in range(10)]
        one, other = ten(), ten()
        for name in names:
            one.put(name, 0)
        for name in reversed(names):
            other.put(name, 0)
        self.assertEqual(one.names(), names)
        self.assertEqual(other.names(), names)

    def test_kinds(self):
        table = filled([((0, 4), (1, 2))])
        self.assertIs(type(table.names()), list)
        self.assertIs(type(table.many()), int)
        self.assertIs(type(table.where(named(4, 2))), tuple)
        self.assertIs(type(table.value(named(4, 2))), int)


class BeyondTest(TableTest):
    def test_more_than_thirty_things(self):
        table = Nests(100, 1, 100)
        for at in range(36):
            for more in "ab":
                table.put(more + SIGNS[at], at)
        self.assertEqual(table.many(), 72)
        self.assertEqual(len(table.names()), 72)


if __name__ == "__main__":
    unittest.main()
