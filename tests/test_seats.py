"""Point [9], with [1] for what is handed in and what is told."""

import random
import time
import unittest
from itertools import combinations_with_replacement, product

from twonests import seats
from twonests.seats import seated


def rows_fit(pairs, rows):
    """Whether no two pairs that have one row have one place in it."""
    taken = [(row, pair[row]) for pair, row in zip(pairs, rows)]
    return len(set(taken)) == len(taken)


def can_be_seated(pairs):
    """Whether any of all ways to give rows fits."""
    return any(rows_fit(pairs, rows) for rows in product((0, 1), repeat=len(pairs)))


def chain(many, at=0):
    """Pairs from place to place: each one shares a place with the one before it."""
    return [(at + (k + 1) // 2, at + k // 2) for k in range(many)]


def circle(many, at=0):
    """A chain closed by one more pair: an even number of pairs with as many places."""
    pairs = chain(many - 1, at)
    return pairs + [(at, pairs[-1][1])]


def orders(pairs):
    """A list of pairs in several orders."""
    chance = random.Random(9)
    told = [list(pairs), list(reversed(pairs)), pairs[::2] + pairs[1::2], pairs[1::2] + pairs[::2]]
    middle = len(pairs) // 2
    told.append(pairs[middle:] + pairs[:middle])
    for _ in range(3):
        mixed = list(pairs)
        chance.shuffle(mixed)
        told.append(mixed)
    return told


class SeatedTest(unittest.TestCase):
    def check(self, pairs, expected=None):
        """Check one answer against what [9] asks of it; expected is "yes", "no" or None for either."""
        before = list(pairs)
        answer = seated(pairs)
        self.assertEqual(pairs, before)
        self.assertIs(type(answer), tuple)
        self.assertEqual(len(answer), 2)
        word, told = answer
        self.assertIn(word, ("yes", "no"))
        if expected is not None:
            self.assertEqual(word, expected, pairs[:12])
        self.assertIs(type(told), list)
        for number in told:
            self.assertIs(type(number), int)
        if word == "yes":
            self.check_rows(pairs, told)
        else:
            self.check_numbers(pairs, told)
        return answer

    def check_rows(self, pairs, rows):
        self.assertEqual(len(rows), len(pairs))
        for row in rows:
            self.assertIn(row, (0, 1))
        self.assertTrue(rows_fit(pairs, rows), (pairs[:12], rows))

    def check_numbers(self, pairs, numbers):
        for number in numbers:
            self.assertTrue(0 <= number < len(pairs), (pairs[:12], numbers))
        for one, other in zip(numbers, numbers[1:]):
            self.assertLess(one, other, (pairs[:12], numbers))
        places = {(row, pairs[number][row]) for number in numbers for row in (0, 1)}
        self.assertLess(len(places), len(numbers), (pairs[:12], numbers))

    def check_by_all_ways(self, pairs):
        self.check(pairs, "yes" if can_be_seated(pairs) else "no")

    def test_is_defined_in_its_file(self):
        self.assertEqual(seated.__module__, "twonests.seats")
        self.assertIs(seats.seated, seated)

    def test_by_hand(self):
        self.assertEqual(seated([]), ("yes", []))
        self.check([(0, 0)], "yes")
        self.check([(5, 5)], "yes")
        # Of three pairs with two places one is too many.
        self.assertEqual(seated([(0, 0), (0, 0), (0, 0)]), ("no", [0, 1, 2]))
        self.assertEqual(seated([(4, 4), (1, 2), (4, 4), (7, 7), (4, 4)]), ("no", [0, 2, 4]))
        # The same number in both rows is two places.
        self.check([(3, 3), (3, 3)], "yes")
        # Three pairs at one place of row 0: only one of them has it.
        word, rows = self.check([(0, 1), (0, 2), (0, 3)], "yes")
        self.assertGreaterEqual(rows.count(1), 2)
        # Four pairs with four places, and a fifth one among them.
        square = [(0, 0), (0, 1), (1, 1), (1, 0)]
        self.check(square, "yes")
        self.assertEqual(seated(square + [(0, 0)]), ("no", [0, 1, 2, 3, 4]))

    def test_pairs_that_are_alike(self):
        for pair in [(0, 0), (3, 3), (0, 1), (1000, 0), (1000, 1000)]:
            for many in (1, 2):
                self.check([pair] * many, "yes")
            for many in (3, 4, 7, 200):
                self.check([pair] * many, "no")

    def test_all_lists_of_two_places_in_each_row(self):
        kinds = list(product(range(2), repeat=2))
        for many in range(7):
            for pairs in product(kinds, repeat=many):
                self.check_by_all_ways(list(pairs))

    def test_all_lists_of_three_places_in_each_row(self):
        kinds = list(product(range(3), repeat=2))
        for many in range(5):
            for pairs in product(kinds, repeat=many):
                self.check_by_all_ways(list(pairs))

    def test_lists_of_five_to_seven_pairs_in_mixed_orders(self):
        chance = random.Random(1)
        for kinds in (product(range(3), range(3)), product(range(2), range(4)), product(range(5), range(1))):
            kinds = list(kinds)
            for many in (5, 6, 7):
                for pairs in combinations_with_replacement(kinds, many):
                    pairs = list(pairs)
                    chance.shuffle(pairs)
                    self.check_by_all_ways(pairs)

    def test_small_lists_of_more_places(self):
        chance = random.Random(2)
        for _ in range(3000):
            lower, upper = chance.randint(1, 6), chance.randint(1, 6)
            many = chance.randint(0, 7)
            self.check_by_all_ways([(chance.randrange(lower), chance.randrange(upper)) for _ in range(many)])

    def test_long_chains(self):
        for many in (2, 3, 50, 199, 200):
            for at in (0, 500, 900):
                for pairs in orders(chain(many, at)):
                    self.check(pairs, "yes")

    def test_long_chains_closed_by_one_more_pair(self):
        for many in (2, 4, 50, 198, 200):
            self.assertEqual(len(circle(many)), many)
            self.assertEqual(len({(row, pair[row]) for pair in circle(many) for row in (0, 1)}), many)
            for pairs in orders(circle(many, 900)):
                self.check(pairs, "yes")

    def test_closed_chains_with_a_pair_too_many(self):
        for many in (2, 4, 50, 198):
            around = circle(many, 800)
            last = around[-1][1]
            for more in [around[0], around[many // 2], (800, last), (800 + many // 4, 800)]:
                for pairs in orders(around + [more]):
                    word, numbers = self.check(pairs, "no")
                    if more == around[0]:
                        self.assertEqual(len(numbers), many + 1)

    def test_chain_with_two_pairs_too_many_at_its_ends(self):
        # The pair at each end is there twice: that is one pair too many, and each is needed for it.
        for many in (3, 51, 197):
            pairs = chain(many)
            pairs = [pairs[0]] + pairs + [pairs[-1]]
            for mixed in orders(pairs):
                word, numbers = self.check(mixed, "no")
                self.assertEqual(numbers, list(range(many + 2)))

    def test_two_circles_are_apart(self):
        pairs = circle(100) + circle(100, 500)
        for mixed in orders(pairs):
            self.check(mixed, "yes")
        # A pair that joins them makes 201 pairs of 200 places.
        word, numbers = self.check(pairs + [(0, 500)], "no")
        self.assertEqual(numbers, list(range(201)))

    def test_stars(self):
        for many in (10, 200):
            for pairs in orders([(7, place) for place in range(many)]):
                self.check(pairs, "yes")
            for pairs in orders([(place, 1000) for place in range(1000 - many, 1000)]):
                self.check(pairs, "yes")
        star = [(7, place) for place in range(198)]
        self.check(star + [(7, 3)], "yes")
        for pairs in orders(star + [(7, 3), (7, 90)]):
            self.check(pairs, "no")

    def test_few_too_many_among_many(self):
        apart = [(place, place) for place in range(100, 297)]
        for pairs in orders(apart + [(1, 1)] * 2):
            self.check(pairs, "yes")
        for pairs in orders(apart + [(1, 1)] * 3):
            word, numbers = self.check(pairs, "no")
            self.assertEqual(numbers, [at for at, pair in enumerate(pairs) if pair == (1, 1)])

    def test_each_place_with_each(self):
        pairs = [(one, other) for one in range(14) for other in range(14)]
        for mixed in orders(pairs):
            self.check(mixed, "no")

    def test_long_mixed_lists(self):
        chance = random.Random(4)
        words = {"yes": 0, "no": 0}
        for _ in range(300):
            many = chance.randint(100, 200)
            places = chance.choice([many // 2, many, many * 2, 1001])
            pairs = [(chance.randrange(places), chance.randrange(places)) for _ in range(many)]
            word, _ = self.check(pairs)
            words[word] += 1
        self.assertGreater(words["yes"], 30)
        self.assertGreater(words["no"], 30)

    def test_long_lists_that_fit_by_their_making(self):
        chance = random.Random(5)
        for _ in range(100):
            lower = [(place, chance.randrange(1001)) for place in chance.sample(range(1001), 100)]
            upper = [(chance.randrange(1001), place) for place in chance.sample(range(1001), 100)]
            pairs = lower + upper
            chance.shuffle(pairs)
            self.check(pairs, "yes")

    def test_answers_at_once(self):
        for pairs in orders(chain(200)) + orders(circle(200)) + orders(circle(198) + [(0, 50), (9, 0)]):
            start = time.process_time()
            seated(pairs)
            self.assertLess(time.process_time() - start, 2)

    def test_somewhat_beyond_the_limits_is_no_error(self):
        self.check(chain(400, 2000), "yes")
        self.check(circle(400, 2000), "yes")
        self.check(circle(400, 2000) + [(2000, 2100)], "no")
        self.check(list(reversed(chain(1500))), "yes")


class OwnTest(unittest.TestCase):
    """What is handed in is not changed, and what is told is the asker's own."""

    LISTS = [[], [(0, 0)], [(0, 1), (0, 2), (0, 3)], [(2, 2)] * 3, [(2, 2), (0, 9)] + [(2, 2)] * 2]

    def test_the_list_that_was_handed_in_is_as_it_was(self):
        for pairs in self.LISTS:
            handed = list(pairs)
            answer = seated(handed)
            self.assertEqual(handed, pairs)
            self.assertIsNot(answer[1], handed)

    def test_changing_what_was_told_changes_no_later_answer(self):
        for pairs in self.LISTS:
            handed = list(pairs)
            word, told = seated(handed)
            kept = list(told)
            for change in (lambda: told.append(77), told.reverse, told.clear):
                change()
                again = seated(handed)
                self.assertEqual(again, (word, kept))
                self.assertIsNot(again[1], told)
            self.assertEqual(handed, pairs)

    def test_later_questions_change_nothing_that_was_told(self):
        answers = [(seated(list(pairs)), pairs) for pairs in self.LISTS]
        kept = [(word, list(told)) for (word, told), _ in answers]
        for pairs in reversed(self.LISTS):
            seated(list(pairs))[1].append(5)
        self.assertEqual([answer for answer, _ in answers], kept)

    def test_changing_what_was_handed_in_changes_nothing_that_was_told(self):
        for pairs in self.LISTS:
            handed = list(pairs)
            word, told = seated(handed)
            kept = list(told)
            handed.append((4, 4))
            handed.reverse()
            handed.clear()
            self.assertEqual(told, kept)


if __name__ == "__main__":
    unittest.main()
