"""Point [10]: moved and grown."""

import random
import time
import unittest

from twonests import errors, growing
from twonests.errors import NoNests, NoRoom
from twonests.growing import grown, moved
from twonests.tables import Nests

SIGNS = "abcdefghijklmnopqrstuvwxyz0123456789"


def of(count, first, second, things):
    """A table with things put into told nests."""
    table = Nests(count, first, second)
    for name, value, nest in things:
        table.put_at(name, value, nest)
    return table


def things_of(table):
    return [(name, table.value(name), table.where(name)) for name in table.names()]


def state(table):
    return (table.count, table.first, table.second, things_of(table))


def random_table(chance):
    """A table of up to 15 nests a row that is full or nearly so."""
    table = Nests(chance.randint(1, 15), chance.randint(1, 1000000), chance.randint(1, 1000000))
    for _ in range(30):
        name = "".join(chance.choice(SIGNS) for _ in range(chance.randint(1, 12)))
        if table.crowd(name) is None:
            table.put(name, chance.randint(-1000000000, 1000000000))
    return table


def by_puts(table, count, first, second):
    """What [10] says of moved, or None where it is refused with NoRoom."""
    new = Nests(count, first, second)
    for row in (0, 1):
        for place in range(table.count):
            name = table.at((row, place))
            if name is not None:
                if new.crowd(name) is not None:
                    return None
                new.put(name, table.value(name))
    return new


class GrowingTest(unittest.TestCase):
    def refused(self, kind, ask, table, *told):
        before = state(table)
        with self.assertRaises(errors.NestError) as caught:
            ask(table, *told)
        self.assertIs(type(caught.exception), kind, (ask, told))
        self.assertEqual(state(table), before)


class MovedTest(GrowingTest):
    def test_are_defined_in_their_file(self):
        for name in ("moved", "grown"):
            self.assertEqual(getattr(growing, name).__module__, "twonests.growing")

    def test_arguments_have_their_names(self):
        new = moved(table=Nests(5, 6, 7), count=8, first=9, second=10)
        self.assertEqual(state(new), (8, 9, 10, []))
        self.assertEqual(state(grown(table=new)), (9, 9, 10, []))

    def test_nothing_in_the_table(self):
        new = moved(Nests(10, 31, 37), 20, 3, 5)
        self.assertIs(type(new), Nests)
        self.assertEqual(state(new), (20, 3, 5, []))

    def test_one_thing(self):
        # The homes of "ab" are the sum 3 and the last number 2; by 7, 10 * 1 + 2 = 12 leaves 5.
        table = of(10, 1, 10, [("ab", -5, (1, 2))])
        self.assertEqual(state(moved(table, 10, 1, 10)), (10, 1, 10, [("ab", -5, (0, 3))]))
        self.assertEqual(state(moved(table, 7, 10, 1)), (7, 10, 1, [("ab", -5, (0, 5))]))

    def test_row_0_ahead_of_row_1(self):
        # The homes of "jd" are (0, 4), (1, 4), those of "bb" (0, 4), (1, 2): the one from row 0 is first at (0, 4).
        table = of(10, 1, 10, [("jd", 1, (1, 4)), ("bb", 2, (0, 4))])
        self.assertEqual(things_of(moved(table, 10, 1, 10)), [("bb", 2, (0, 4)), ("jd", 1, (1, 4))])
        table = of(10, 1, 10, [("bb", 2, (1, 2)), ("jd", 1, (0, 4))])
        self.assertEqual(things_of(moved(table, 10, 1, 10)), [("jd", 1, (0, 4)), ("bb", 2, (1, 2))])

    def test_by_places(self):
        # By (10, 10, 1) the homes are the last number and the sum. "eg" and "bg" stand at (0, 2) and (0, 9) here.
        table = of(10, 1, 10, [("bg", 1, (0, 9)), ("eg", 2, (0, 2))])
        self.assertEqual(things_of(moved(table, 10, 10, 1)), [("eg", 2, (0, 7)), ("bg", 1, (1, 9))])
        # In row 1 by places, too: places are numbers, so 2 is ahead of 12 and 23.
        table = of(1000, 1, 1000, [("0w", 1, (1, 23)), ("1l", 2, (1, 12)), ("kb", 3, (1, 2))])
        # By (10, 1000, 1) the homes are 3, 2, 2 in row 0, and 50, 40, 13 leave 0, 0, 3 in row 1.
        told = [("kb", 3, (0, 2)), ("0w", 1, (0, 3)), ("1l", 2, (1, 0))]
        self.assertEqual(things_of(moved(table, 10, 1000, 1)), told)

    def test_with_moves(self):
        # By (10, 10, 1) homes are the last number and the sum: "ag" 7, 8; "bg" 7, 9; "af" 6, 7; "cf" 6, 9.
        table = of(10, 1, 10, [("ag", 1, (0, 8)), ("bg", 2, (0, 9)), ("af", 3, (0, 7)), ("cf", 4, (1, 6))])
        # "af" to (0, 6), "ag" to (0, 7), "bg" to (1, 9) as (0, 7) is taken, "cf": from (0, 6) on to (1, 7).
        new = moved(table, 10, 10, 1)
        self.assertEqual(things_of(new), [("cf", 4, (0, 6)), ("ag", 1, (0, 7)), ("af", 3, (1, 7)), ("bg", 2, (1, 9))])

    def test_to_the_same_count_and_multipliers(self):
        table = of(1, 1, 1, [("a", 1, (1, 0)), ("b", 2, (0, 0))])
        new = moved(table, 1, 1, 1)
        self.assertIsNot(new, table)
        self.assertEqual(things_of(new), [("b", 2, (0, 0)), ("a", 1, (1, 0))])

    def test_limits(self):
        things = [("a", -1000000000, (0, 0)), ("999999999999", 1000000000, (1, 0))]
        for count in (1, 2, 999, 1000):
            for first in (1, 2, 1000000):
                for second in (1, 2, 1000000):
                    new = moved(of(1, 31, 37, things), count, first, second)
                    self.assertEqual((new.count, new.first, new.second), (count, first, second))
                    self.assertEqual({name: new.value(name) for name in new.names()},
                                     {"a": -1000000000, "999999999999": 1000000000})

    def test_refuses_beyond_the_limits(self):
        empty = Nests(10, 31, 37)
        three = of(10, 1, 10, [("a", 1, (0, 1)), ("b", 1, (0, 2)), ("c", 1, (0, 3))])
        for table in (empty, three):
            for count in (1, 10, 0, -1, 1001, 10**9):
                for first in (1, 31, 0, -1, 1000001):
                    for second in (1, 37, 0, -1, 1000001):
                        if count in (1, 10) and first in (1, 31) and second in (1, 37):
                            continue
                        self.refused(NoNests, moved, table, count, first, second)

    def test_refuses_where_there_is_no_room(self):
        three = of(10, 1, 10, [("a", 1, (0, 1)), ("b", 1, (0, 2)), ("c", 1, (0, 3))])
        for first, second in [(1, 1), (31, 37), (1000000, 1)]:
            self.refused(NoRoom, moved, three, 1, first, second)
        # 1, 3 and 5 leave 1 by 2: the three have the same homes.
        odd = of(10, 1, 10, [("a", 1, (0, 1)), ("c", 1, (0, 3)), ("e", 1, (0, 5))])
        self.refused(NoRoom, moved, odd, 2, 1, 1)
        self.assertEqual(moved(odd, 3, 1, 1).names(), ["c", "a", "e"])

    def test_random_tables(self):
        chance = random.Random(10)
        found = {"room": 0, "none": 0}
        for _ in range(400):
            table = random_table(chance)
            count = max(1, table.count + chance.randint(-3, 6))
            told = (count, chance.randint(1, 1000000), chance.randint(1, 1000000))
            expected = by_puts(table, *told)
            if expected is None:
                self.refused(NoRoom, moved, table, *told)
                found["none"] += 1
            else:
                before = state(table)
                self.assertEqual(state(moved(table, *told)), state(expected))
                self.assertEqual(state(table), before)
                found["room"] += 1
        self.assertGreater(min(found.values()), 50)


class GrownTest(GrowingTest):
    def test_nothing_in_the_table(self):
        for count in (1, 2, 10, 998, 999):
            self.assertEqual(state(grown(Nests(count, 31, 1000000))), (count + 1, 31, 1000000, []))

    def test_one_more(self):
        # "b" stands at (0, 0) by 2, and goes to (0, 2) by 3.
        table = of(2, 2, 3, [("a", 5, (0, 1)), ("b", -7, (0, 0))])
        new = grown(table)
        self.assertIs(type(new), Nests)
        self.assertEqual(state(new), (3, 2, 3, [("a", 5, (0, 1)), ("b", -7, (0, 2))]))

    def test_a_table_that_is_full(self):
        table = of(1, 1, 1, [("a", 1, (1, 0)), ("b", 2, (0, 0))])
        self.assertEqual(state(grown(table)), (2, 1, 1, [("b", 2, (0, 0)), ("a", 1, (0, 1))]))

    def test_passes_over_counts_without_room(self):
        # The sums 1, 13 and 25 leave the same by 6, so three names have two nests there, but not by 5 and by 7.
        table = of(5, 1, 1, [("a", 1, (0, 1)), ("m", 2, (0, 3)), ("y", 3, (0, 0))])
        self.refused(NoRoom, moved, table, 6, 1, 1)
        self.assertEqual(state(grown(table)), (7, 1, 1, [("a", 1, (0, 1)), ("y", 3, (0, 4)), ("m", 2, (0, 6))]))

    def test_begins_again_with_each_count(self):
        # By 6 all but the last of these are put before there is no room.
        things = [("b", 9, (0, 2)), ("a", 1, (0, 1)), ("m", 2, (0, 3)), ("y", 3, (0, 0)), ("d", 4, (0, 4))]
        new = grown(of(5, 1, 1, things))
        told = [("a", 1, (0, 1)), ("b", 9, (0, 2)), ("y", 3, (0, 4)), ("m", 2, (0, 6)), ("d", 4, (1, 4))]
        self.assertEqual(state(new), (7, 1, 1, told))

    def test_up_to_a_thousand(self):
        self.assertEqual(state(grown(of(999, 1, 1, [("a", 1, (1, 1))]))), (1000, 1, 1, [("a", 1, (0, 1))]))

    def test_refuses_where_a_thousand_has_no_room(self):
        # By 1000 the multiplier leaves the last sign's number alone, by 999 it leaves the sum.
        table = of(999, 1000000, 1000000, [("aa", 1, (0, 2)), ("ba", 1, (0, 3)), ("ca", 1, (0, 4))])
        self.refused(NoRoom, grown, table)

    def test_refuses_where_several_counts_have_no_room(self):
        # By 1000 the three have one last sign, by 999 one sum; by 998 the multiplier leaves 4: 29, 41 and 53.
        things = [("aca", 1, (0, 29)), ("bba", 1, (0, 41)), ("caa", 1, (0, 53))]
        self.refused(NoRoom, grown, of(998, 1000000, 1000000, things))

    def test_refuses_beyond_a_thousand(self):
        self.refused(NoRoom, grown, Nests(1000, 31, 37))
        self.refused(NoRoom, grown, of(1000, 31, 37, [("a", 1, (0, 1))]))

    def test_random_tables(self):
        chance = random.Random(11)
        steps = set()
        for _ in range(300):
            table = random_table(chance)
            count = table.count + 1
            while by_puts(table, count, table.first, table.second) is None:
                count += 1
            before = state(table)
            self.assertEqual(state(grown(table)), state(by_puts(table, count, table.first, table.second)))
            self.assertEqual(state(table), before)
            steps.add(count - table.count)
        self.assertIn(1, steps)
        self.assertGreater(max(steps), 3)

    def test_answers_at_once(self):
        # Sums that leave the same by many counts: by 1 and 1 as multipliers each place has two nests.
        table = Nests(16, 1, 1)
        for at in range(15):
            table.put(SIGNS[at], at)
            table.put("p" + SIGNS[at], at)
        self.assertEqual(table.many(), 30)
        start = time.process_time()
        self.assertEqual(grown(table).count, 17)
        for count in range(1, 400):
            try:
                moved(table, count, 1, 1)
            except NoRoom:
                pass
        self.assertLess(time.process_time() - start, 5)


if __name__ == "__main__":
    unittest.main()
