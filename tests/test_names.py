"""Points [2] and [3]: what a name is, and its home by a multiplier and a count."""

import random
import unittest

from twonests import names
from twonests.names import home, is_name

# Written out again, so that a wrong sign or a wrong order in the package is seen.
SIGNS = [
    "a", "b", "c", "d", "e", "f", "g", "h", "i", "j", "k", "l", "m",
    "n", "o", "p", "q", "r", "s", "t", "u", "v", "w", "x", "y", "z",
    "0", "1", "2", "3", "4", "5", "6", "7", "8", "9",
]
OTHERS = [chr(code) for code in [9, 10, 13] + list(range(32, 127)) if chr(code) not in SIGNS]


class IsNameTest(unittest.TestCase):
    def test_is_defined_in_its_file(self):
        self.assertEqual(is_name.__module__, "twonests.names")
        self.assertIs(names.is_name, is_name)

    def test_ordinary_names(self):
        for name in ["nest", "a1", "1a", "007", "zz9", "thing42"]:
            with self.subTest(name=name):
                self.assertIs(is_name(name), True)

    def test_lengths(self):
        for length, told in [(0, False), (1, True), (2, True), (11, True), (12, True), (13, False), (100, False)]:
            for sign in ["a", "z", "0", "9"]:
                with self.subTest(length=length, sign=sign):
                    self.assertIs(is_name(sign * length), told)

    def test_each_of_the_36_signs(self):
        self.assertEqual(len(SIGNS), 36)
        for sign in SIGNS:
            for name in [sign, sign + "b7", "b" + sign + "7", "b7" + sign, sign * 12]:
                with self.subTest(name=name):
                    self.assertIs(is_name(name), True)

    def test_all_signs_in_names_of_twelve(self):
        for at in (0, 12, 24):
            self.assertIs(is_name("".join(SIGNS[at:at + 12])), True)

    def test_other_signs_at_the_front_in_the_middle_and_at_the_end(self):
        for sign in ["A", "Z", " ", "_", "-", "\n"]:
            self.assertIn(sign, OTHERS)
        for sign in OTHERS:
            for text in [sign, sign + "ab", "a" + sign + "b", "ab" + sign]:
                with self.subTest(text=text):
                    self.assertIs(is_name(text), False)

    def test_other_signs_in_texts_of_twelve_and_thirteen(self):
        for sign in OTHERS:
            for at in range(12):
                with self.subTest(sign=sign, at=at):
                    self.assertIs(is_name("a" * at + sign + "a" * (11 - at)), False)
            self.assertIs(is_name("a" * 12 + sign), False)
            self.assertIs(is_name(sign + "a" * 12), False)


def by_powers(name, times, count):
    """The home in another way: each sign's number times a power, the remainder taken once."""
    total = 0
    for at, sign in enumerate(name):
        total += (SIGNS.index(sign) + 1) * times ** (len(name) - 1 - at)
    return total % count


class HomeTest(unittest.TestCase):
    def check(self, name, times, count, told):
        with self.subTest(name=name, times=times, count=count):
            self.assertEqual(home(name, times, count), told)
            self.assertIs(type(home(name, times, count)), int)

    def test_is_defined_in_its_file(self):
        self.assertEqual(home.__module__, "twonests.names")
        self.assertIs(names.home, home)

    def test_numbers_of_the_signs(self):
        for at, sign in enumerate(SIGNS):
            self.check(sign, 1, 1000, at + 1)
            self.check(sign, 1000000, 1000, at + 1)
        self.check("a", 7, 1000, 1)
        self.check("z", 7, 1000, 26)
        self.check("0", 7, 1000, 27)
        self.check("9", 7, 1000, 36)

    def test_goes_from_the_left(self):
        self.check("ab", 10, 1000, 12)
        self.check("ba", 10, 1000, 21)
        self.check("a0", 100, 1000, 127)
        self.check("0a", 100, 1000, 701)

    def test_hand_worked(self):
        # 14; 14 * 31 + 5 = 439, 39; 39 * 31 + 19 = 1228, 28; 28 * 31 + 20 = 888, 88
        self.check("nest", 31, 100, 88)
        # 1; 1 * 3 + 2 = 5; 5 * 3 + 3 = 18, 4; 4 * 3 + 4 = 16, 2
        self.check("abcd", 3, 14, 2)
        # 26, 6; 6 * 5 + 26 = 56, 6; 6 * 5 + 36 = 66, 6
        self.check("zz9", 5, 10, 6)

    def test_multiplier_of_one_adds_the_numbers(self):
        self.check("nest", 1, 1000, 58)
        self.check("nest", 1, 58, 0)
        self.check("nest", 1, 59, 58)
        self.check("nest", 1, 57, 1)

    def test_multiplier_of_a_million(self):
        # 1000000 is a multiple of 1000, one more than one of 999, nine more than one of 17.
        self.check("nest", 1000000, 1000, 20)
        self.check("nest", 1000000, 999, 58)
        self.check("ab", 1000000, 17, 11)
        self.check("abc", 1000000, 17, 0)

    def test_count_of_one(self):
        for name in ["a", "9", "nest", "zzzzzzzzzzzz"]:
            for times in (1, 2, 31, 1000000):
                self.check(name, times, 1, 0)

    def test_count_of_two(self):
        self.check("a", 1, 2, 1)
        self.check("b", 1, 2, 0)
        self.check("nest", 1, 2, 0)
        self.check("nests", 1, 2, 1)
        self.check("nest", 1000000, 2, 0)
        self.check("nests", 1000000, 2, 1)

    def test_count_of_a_thousand(self):
        # 1 * 36 + 36 = 72; 72 * 36 + 1 = 2593, 593
        self.check("a9a", 36, 1000, 593)
        # 1; 1 * 999 + 1 = 1000, 0; 0 * 999 + 1 = 1
        self.check("a", 999, 1000, 1)
        self.check("aa", 999, 1000, 0)
        self.check("aaa", 999, 1000, 1)

    def test_names_of_twelve_signs(self):
        self.check("aaaaaaaaaaaa", 2, 1000, 95)
        self.check("abcdefghijkl", 1, 1000, 78)
        self.check("zzzzzzzzzzzz", 10, 1000, 886)
        self.check("999999999999", 1, 1000, 432)
        self.check("999999999999", 1, 5, 2)
        self.check("abcdefghijkl", 1000000, 1000, 12)

    def test_against_powers(self):
        chance = random.Random(3)
        for _ in range(2000):
            name = "".join(chance.choice(SIGNS) for _ in range(chance.randint(1, 12)))
            times = chance.choice([1, 2, 31, 999, 1000, 999999, 1000000, chance.randint(1, 1000000)])
            count = chance.choice([1, 2, 3, 7, 36, 37, 999, 1000, chance.randint(1, 1000)])
            self.check(name, times, count, by_powers(name, times, count))

    def test_somewhat_beyond_the_limits_is_no_error(self):
        self.check("", 31, 100, 0)
        self.check("a" * 13, 1, 1000, 13)
        self.check("ab", 0, 1000, 2)
        self.check("ab", 1000001, 1000, 3)
        self.check("ab", 1000, 1001, 1002 % 1001)
        self.check("nest", 31, 0, 0)


if __name__ == "__main__":
    unittest.main()
