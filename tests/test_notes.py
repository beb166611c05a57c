"""Points [11] and [12]: tables written as rows, and rows read to a table."""

import random
import re
import unittest
from itertools import permutations

from twonests import errors, notes
from twonests.errors import NoHome, NoName, NoNest, NoNests, NoNote, NoValue, Taken, Twice
from twonests.notes import read, written
from twonests.tables import Nests

SIGNS = "abcdefghijklmnopqrstuvwxyz0123456789"
# [12] as a pattern: a word is whatever stands between blanks and line ends.
NUMBER = "(?:0|[1-9][0-9]{0,9})"
VALUE = "(?:0|-?[1-9][0-9]{0,9})"
ROWS = re.compile(f"nests {NUMBER} {NUMBER} {NUMBER}\n(?:{NUMBER} {NUMBER} [^ \n]+ {VALUE}\n)*")

# In a table of 10 with the multipliers 1 and 10 the homes of a name of two signs
# are (0, the sum of their numbers) and (1, the number of the last one), by 10.
HEAD = "nests 10 1 10\n"


def table_of(things, count=10, first=1, second=10):
    table = Nests(count, first, second)
    for name, value, nest in things:
        table.put_at(name, value, nest)
    return table


def state(table):
    things = [(name, table.value(name), table.where(name)) for name in table.names()]
    return (table.count, table.first, table.second, table.many(), things)


class WrittenTest(unittest.TestCase):
    def test_are_defined_in_their_file(self):
        for name in ("written", "read"):
            self.assertEqual(getattr(notes, name).__module__, "twonests.notes")

    def test_arguments_have_their_names(self):
        self.assertEqual(written(table=read(text=HEAD)), HEAD)

    def test_nothing_in_the_table(self):
        self.assertEqual(written(Nests(10, 1, 10)), "nests 10 1 10\n")
        self.assertEqual(written(Nests(1, 1, 1)), "nests 1 1 1\n")
        self.assertEqual(written(Nests(1000, 1000000, 31)), "nests 1000 1000000 31\n")

    def test_things_in_the_order_of_their_nests(self):
        things = [("jd", 4, (1, 4)), ("bb", -20, (1, 2)), ("ab", 0, (0, 3)), ("hh", 7, (0, 6)), ("jj", 1, (0, 0))]
        rows = "0 0 jj 1\n0 3 ab 0\n0 6 hh 7\n1 2 bb -20\n1 4 jd 4\n"
        self.assertEqual(written(table_of(things)), HEAD + rows)

    def test_places_are_numbers_not_texts(self):
        table = Nests(1000, 1, 1)
        for name in ("z", "b", "9999", "j"):
            table.put(name, 5)
        self.assertEqual(written(table), "nests 1000 1 1\n0 2 b 5\n0 10 j 5\n0 26 z 5\n0 144 9999 5\n")

    def test_limits(self):
        table = Nests(1000, 1000000, 1)
        table.put("a", -1000000000)
        table.put_at("999999999999", 1000000000, (1, 432))
        self.assertEqual(written(table), "nests 1000 1000000 1\n0 1 a -1000000000\n1 432 999999999999 1000000000\n")

    def test_a_full_table(self):
        table = table_of([("b", -1, (0, 0)), ("a", 0, (1, 0))], 1, 1, 1)
        self.assertEqual(written(table), "nests 1 1 1\n0 0 b -1\n1 0 a 0\n")

    def test_after_moves_and_takings_out(self):
        table = table_of([("bb", 2, (0, 4)), ("dd", 4, (0, 8)), ("aa", 1, (0, 2))])
        table.take_out("aa")
        # The homes of "jd" are (0, 4) and (1, 4), to which "dd" is moved first.
        table.take_out("dd")
        table.put_at("dd", 5, (1, 4))
        self.assertEqual(table.put("jd", 3), [("bb", (0, 4), (1, 2))])
        self.assertEqual(written(table), HEAD + "0 4 jd 3\n1 2 bb 2\n1 4 dd 5\n")

    def test_changes_nothing(self):
        table = table_of([("bb", 2, (0, 4)), ("dd", 4, (1, 4))])
        before = state(table)
        self.assertEqual(written(table), written(table))
        self.assertEqual(state(table), before)


class ReadTest(unittest.TestCase):
    def refused(self, kind, text):
        with self.subTest(text=text):
            with self.assertRaises(errors.NestError) as caught:
                read(text)
            self.assertIs(type(caught.exception), kind)

    def test_nothing_in_the_table(self):
        table = read("nests 10 31 37\n")
        self.assertIs(type(table), Nests)
        self.assertEqual(state(table), (10, 31, 37, 0, []))
        self.assertEqual(state(read("nests 1 1 1\n")), (1, 1, 1, 0, []))
        self.assertEqual(state(read("nests 1000 1000000 1000000\n")), (1000, 1000000, 1000000, 0, []))

    def test_things(self):
        table = read(HEAD + "0 3 ab 0\n1 2 bb -20\n1 4 jd 4\n")
        self.assertEqual(state(table), (10, 1, 10, 3, [("ab", 0, (0, 3)), ("bb", -20, (1, 2)), ("jd", 4, (1, 4))]))

    def test_rows_in_whatever_order(self):
        # The homes of "jd" and "bb" are (0, 4), and both like (0, 4) more than row 1: rows are no puts.
        rows = ["0 3 ab 0\n", "0 4 jd 5\n", "1 2 bb -20\n", "1 4 dd 4\n"]
        told = [("ab", 0, (0, 3)), ("jd", 5, (0, 4)), ("bb", -20, (1, 2)), ("dd", 4, (1, 4))]
        for mixed in permutations(rows):
            table = read(HEAD + "".join(mixed))
            self.assertEqual(state(table), (10, 1, 10, 4, told))
            self.assertEqual(written(table), HEAD + "".join(rows))

    def test_limits(self):
        text = "nests 1000 1000000 1\n0 1 a -1000000000\n1 432 999999999999 1000000000\n"
        told = [("a", -1000000000, (0, 1)), ("999999999999", 1000000000, (1, 432))]
        self.assertEqual(state(read(text)), (1000, 1000000, 1, 2, told))
        self.assertEqual(state(read("nests 1 1 1\n1 0 b 0\n0 0 a -1\n"))[4], [("a", -1, (0, 0)), ("b", 0, (1, 0))])

    def test_a_name_like_a_number_or_a_word_of_the_rows(self):
        table = read("nests 1000 1 1000\n0 27 0 1\n1 29 0012 -3\n0 77 nests 2\n")
        self.assertEqual(table.names(), ["0", "nests", "0012"])

    def test_what_was_written_is_read_back(self):
        chance = random.Random(12)
        for _ in range(200):
            table = Nests(chance.randint(1, 20), chance.randint(1, 1000000), chance.randint(1, 1000000))
            for _ in range(chance.randint(0, 40)):
                name = "".join(chance.choice(SIGNS) for _ in range(chance.randint(1, 12)))
                nest = chance.choice(table.homes(name))
                if name not in table.names() and table.at(nest) is None:
                    table.put_at(name, chance.choice([0, 1, -1, chance.randint(-10**9, 10**9)]), nest)
            text = written(table)
            again = read(text)
            self.assertEqual(state(again), state(table))
            head, *rows = text.splitlines(keepends=True)
            chance.shuffle(rows)
            self.assertEqual(state(read(head + "".join(rows))), state(table))
            # What was read is a table as any other: it grows and moves as the first one does.
            name = "".join(chance.choice(SIGNS) for _ in range(12))
            if table.crowd(name) is None:
                self.assertEqual(again.put(name, 5), table.put(name, 5))
            self.assertEqual(again.crowd(name), table.crowd(name))
            self.assertEqual(state(again), state(table))

    def test_refuses_texts_without_rows_or_line_ends(self):
        for text in ["", "\n", "\n\n", " ", " \n", "nests", "nests\n", "nests 10 1 10", "nests 10 1 10\n0 3 ab 5"]:
            self.refused(NoNote, text)
        for text in ["nests 10 1 10\n\n", "\nnests 10 1 10\n", "nests 10 1 10\n\n0 3 ab 5\n", "nests 10 1 10\n \n"]:
            self.refused(NoNote, text)
        for text in ["nests 10 1 10\n0 3 ab 5\n\n", "nests 10 1 10\n0 3 ab 5\n ", "nests 10 1 10 0 3 ab 5\n"]:
            self.refused(NoNote, text)
        for text in ["0 3 ab 5\n", "0 3 ab 5\nnests 10 1 10\n", "nests 10 1 10\nnests 10 1 10\n"]:
            self.refused(NoNote, text)

    def test_refuses_first_rows(self):
        rows = ["nest 10 1 10", "Nests 10 1 10", "nests10 1 10", "nestss 10 1 10", " nests 10 1 10", "nests  10 1 10"]
        rows += ["nests 10 1 10 ", "nests 10 1  10", "nests 10 1", "nests 10 1 10 1", "nests 10 1 ", "10 1 10"]
        rows += ["nests\t10 1 10", "nests 10\t1 10", "nests 10 1 10\t", "\tnests 10 1 10", "nests, 10 1 10"]
        rows += ["nests ten 1 10", "10 nests 1 10", "nests:10 1 10 ", "nests   "]
        for row in rows:
            self.refused(NoNote, row + "\n")
            self.refused(NoNote, row + "\n0 3 ab 5\n")

    def test_refuses_rows_of_nests(self):
        rows = ["0 3 ab", "0 3 5", "3 ab 5", "0 3 ab 5 ", " 0 3 ab 5", "0  3 ab 5", "0 3  ab 5", "0 3 ab  5", "0 3  5"]
        rows += ["0 3 a b 5", "0 3 ab 5 5", "0 3 ab ", "0\t3 ab 5", "0 3 ab\t5", "0 3\tab 5", "0 3 ab 5\t"]
        rows += ["\t0 3 ab 5", "ab 0 3 5", "0 ab 3 x", "0 3 ab x", "x 3 ab 5", "0 x ab 5", "", " ", "   "]
        rows += ["0,3 ab 5", "(0, 3) ab 5"]
        for row in rows:
            self.refused(NoNote, HEAD + row + "\n")
            self.refused(NoNote, HEAD + "1 2 bb 5\n" + row + "\n")
            self.refused(NoNote, HEAD + row + "\n1 2 bb 5\n")

    def test_refuses_numbers_of_another_form(self):
        wrong = ["", "00", "01", "007", "+1", "-1", "-0", "1.0", "1e3", "1_0", "0x1", "x", "1x", "x1", "12345678901"]
        wrong += ["00000000001", "01234567890", "10000000000", "--1", "1-", "-", "1,000", "''", "\t1", "1\t", "a", "~"]
        for word in wrong:
            for row in [f"nests {word} 1 10", f"nests 10 {word} 10", f"nests 10 1 {word}"]:
                self.refused(NoNote, row + "\n")
            for row in [f"{word} 3 ab 5", f"0 {word} ab 5"]:
                self.refused(NoNote, HEAD + row + "\n")
            if word != "-1":
                self.refused(NoNote, HEAD + f"0 3 ab {word}\n")
        for word in ["-00", "-01", "-x", "- 1", "-+1", "-1.0", "-12345678901", "-00000000001", "-1-", "-\t1"]:
            self.refused(NoNote, HEAD + f"0 3 ab {word}\n")

    def test_refuses_other_line_ends(self):
        self.refused(NoNote, "nests 10 1 10\r\n")
        self.refused(NoNote, "nests 10 1 10\r")
        self.refused(NoNote, HEAD + "0 3 ab 5\r\n")

    def test_numbers_of_ten_figures(self):
        for word in ["1000000001", "9999999999", "1234567890"]:
            for row in [f"nests {word} 1 10", f"nests 10 {word} 10", f"nests 10 1 {word}"]:
                self.refused(NoNests, row + "\n")
            for row in [f"{word} 3 ab 5", f"0 {word} ab 5"]:
                self.refused(NoNest, HEAD + row + "\n")
            for sign in ("", "-"):
                self.refused(NoValue, HEAD + f"0 3 ab {sign}{word}\n")

    def test_numbers_of_one_to_ten_figures_are_read(self):
        for figures in range(1, 10):
            for number in [10**(figures - 1), 10**figures - 1, int("1234567891"[:figures])]:
                for value in (number, -number):
                    self.assertEqual(read(HEAD + f"0 3 ab {value}\n").value("ab"), value)
        for value in (0, 1000000000, -1000000000):
            self.assertEqual(read(HEAD + f"0 3 ab {value}\n").value("ab"), value)

    def test_refuses_the_first_row_with_no_nests(self):
        for row in ["0 1 10", "1001 1 10", "10 0 10", "10 1000001 10", "10 1 0", "10 1 1000001", "0 0 0"]:
            self.refused(NoNests, f"nests {row}\n")
            # The first row is ahead of what the others hold, but not of their form.
            self.refused(NoNests, f"nests {row}\n2 99 AB 9999999999\n")
            self.refused(NoNote, f"nests {row}\n2 99 AB\n")
            self.refused(NoNote, f"nests {row}\n0 3 ab 5")

    def test_refuses_what_putting_into_a_told_nest_refuses(self):
        for word in ["AB", "a-b", "a.b", "abcdefghijklm", "~", "!", "a_b", "nesT", "-1", "a\tb", "\t", "'", "(0,3)"]:
            self.refused(NoName, HEAD + f"0 3 {word} 5\n")
        for value in [1000000001, -1000000001, 9999999999, -9999999999]:
            self.refused(NoValue, HEAD + f"0 3 ab {value}\n")
        for rows in ["0 3 ab 5\n0 3 ab 5\n", "0 3 ab 5\n1 2 ab 5\n", "1 2 ab 5\n0 4 jd 1\n0 3 ab 6\n"]:
            self.refused(Twice, HEAD + rows)
        for nest in ["0 10", "1 10", "2 3", "3 2", "9999999999 0", "0 9999999999"]:
            self.refused(NoNest, HEAD + f"{nest} ab 5\n")
        for nest in ["0 2", "1 3", "0 0", "1 9"]:
            self.refused(NoHome, HEAD + f"{nest} ab 5\n")
        self.refused(Taken, HEAD + "0 3 ab 5\n0 3 ba 5\n")
        self.refused(Taken, HEAD + "1 2 ab 5\n0 4 jd 5\n1 2 bb 5\n")

    def test_refuses_the_first_of_several_in_one_row(self):
        good = "0 3 ab 5\n"
        self.refused(NoName, HEAD + good + "2 99 AB 9999999999\n")
        self.refused(NoValue, HEAD + good + "2 99 ab 9999999999\n")
        self.refused(Twice, HEAD + good + "2 99 ab 5\n")
        self.refused(Twice, HEAD + good + "0 5 ab 5\n")
        self.refused(NoNest, HEAD + good + "2 99 ba 5\n")
        self.refused(NoHome, HEAD + good + "0 3 aa 5\n")
        self.refused(Taken, HEAD + good + "0 3 ba 5\n")

    def test_refuses_the_first_row_from_the_top(self):
        wrong = {
            "0 5 ABC 5\n": NoName,
            "0 3 ba 1000000001\n": NoValue,
            "1 2 ab 5\n": Twice,
            "0 10 jj 5\n": NoNest,
            "0 1 jj 5\n": NoHome,
            "0 3 ba 5\n": Taken,
        }
        for one in wrong:
            for other in wrong:
                self.refused(wrong[one], HEAD + "0 3 ab 5\n" + one + other)
                self.refused(NoNote, HEAD + "0 3 ab 5\n" + one + other + "x\n")
                self.refused(NoNote, HEAD + "0 3 ab 5\n" + one + "0 3\n" + other)

    def test_texts_that_are_nearly_rows(self):
        chance = random.Random(13)
        good = HEAD + "0 3 ab 0\n0 4 jd 50\n1 2 bb -20\n1 4 dd 1000000000\n"
        signs = "0123456789 \n\t-abjdnests+.~A"
        found = {True: 0, False: 0}
        for _ in range(6000):
            text = good
            for _ in range(chance.choice([1, 1, 1, 2, 3])):
                at = chance.randrange(len(text) + 1)
                cut = chance.choice([0, 1, 1, 2])
                text = text[:at] + chance.choice(["", chance.choice(signs), chance.choice(signs)]) + text[at + cut:]
            told = ROWS.fullmatch(text) is not None
            found[told] += 1
            if not told:
                self.refused(NoNote, text)
            else:
                self.check_by_steps(text)
        self.assertGreater(min(found.values()), 500)

    def check_by_steps(self, text):
        """Check a text that is rows against a table made of them step by step."""
        head, *rows = [row.split(" ") for row in text.split("\n")[:-1]]
        try:
            table = Nests(*[int(word) for word in head[1:]])
            for row, place, name, value in rows:
                table.put_at(name, int(value), (int(row), int(place)))
        except errors.NestError as error:
            self.refused(type(error), text)
        else:
            self.assertEqual(state(read(text)), state(table), text)


if __name__ == "__main__":
    unittest.main()
