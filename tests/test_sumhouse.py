"""[0.2], [0.5], [7.4], [7.5] and the interface's guessroom/sumhouse.py."""

import copy
import itertools
import random
import unittest

from guessroom.errors import BadHouse, BadWord
from guessroom.sumhouse import (
    made_sums, row_behind, sums_back, sums_less, sums_times, worth,
)
from refusals import RefusalTest
from samples import FAR, GREAT, PRIMES, random_word, words_by_hand, wrong_words
from sums import (
    GREATEST, counter, late, many_sums, nothing, random_sums, row_by_hand, worth_by_hand,
)


def as_lists(house):
    p, letters, first, tables, last = house
    return [p, letters, list(first), [[list(row) for row in table] for table in tables], list(last)]


def kinds(house):
    """The kinds of all that a sum house is made of."""
    found = {type(house), type(house[2]), type(house[3]), type(house[4])}
    found |= {type(table) for table in house[3]}
    return found | {type(row) for table in house[3] for row in table}


class MadeTest(RefusalTest):
    def refused(self, parts):
        self.assert_refused(BadHouse, made_sums, *parts)

    def test_by_hand(self):
        told = made_sums(7, 1, [1, 0], [[[1, 1], [0, 1]]], [0, 1])
        self.assertEqual(told, (7, 1, (1, 0), (((1, 1), (0, 1)),), (0, 1)))
        self.assertEqual(kinds(told), {tuple})
        self.assertEqual(made_sums(*told), told)

    def test_lists_and_tuples(self):
        for house in many_sums(151, 60, 6, 16) + [GREATEST]:
            self.assertEqual(made_sums(*as_lists(house)), house)
            self.assertEqual(kinds(made_sums(*as_lists(house))), {tuple})
            self.assertEqual(made_sums(*house), house)

    def test_rows_of_no_numbers(self):
        for letters in (1, 6):
            for p in PRIMES:
                told = made_sums(p, letters, [], [[]] * letters, [])
                self.assertEqual(told, (p, letters, (), ((),) * letters, ()))

    def test_counts_of_letters(self):
        for letters in (0, 7, -1, FAR):
            count = max(0, min(letters, 7))
            self.refused([7, letters, [1], [[[1]]] * count, [1]])
        self.refused([7, 0, [], [], []])

    def test_p(self):
        for p in (1, 0, -1, -7, 10 ** 18, 10 ** 18 + 9, FAR):
            self.refused([p, 1, [0], [[[0]]], [0]])
            self.refused([p, 1, [], [[]], []])
        for p in (2, 10 ** 18 - 1, GREAT):
            self.assertEqual(made_sums(p, 1, [0], [[[p - 1]]], [0])[0], p)

    def test_too_many_numbers(self):
        chance = random.Random(152)
        for size in (17, 18, 40):
            self.refused(as_lists(random_sums(chance, 7, 2, size)))

    def test_a_last_row_of_another_count(self):
        for size in (0, 1, 5, 16):
            for count in (size - 1, size + 1):
                parts = as_lists(nothing(7, 2, size))
                parts[4] = [0] * count
                if count >= 0:
                    self.refused(parts)

    def test_a_first_row_of_another_count(self):
        for size in (0, 1, 5, 16):
            parts = as_lists(nothing(7, 2, size))
            parts[2] = parts[2] + [0]
            self.refused(parts)

    def test_as_many_tables_as_letters(self):
        for letters in (1, 3, 6):
            parts = as_lists(nothing(7, letters, 2))
            self.refused(parts[:3] + [parts[3][:-1]] + parts[4:])
            self.refused(parts[:3] + [parts[3] + parts[3][:1]] + parts[4:])

    def test_rows_in_tables(self):
        for size in (1, 2, 16):
            for at in (0, 2):
                for count in (0, size - 1, size + 1):
                    parts = as_lists(nothing(7, 3, size))
                    parts[3][at] = [[0] * size] * count
                    self.refused(parts)
                    parts = as_lists(nothing(7, 3, size))
                    parts[3][at][size - 1] = [0] * count
                    self.refused(parts)
        parts = as_lists(nothing(7, 2, 0))
        parts[3][1] = [[]]
        self.refused(parts)

    def test_numbers_below_0_and_not_below_p(self):
        for p in PRIMES:
            for wrong in (-1, p, p + 1, -FAR, FAR):
                for place in (0, 2):
                    parts = as_lists(nothing(p, 2, 3))
                    parts[2][place] = wrong
                    self.refused(parts)
                    parts = as_lists(nothing(p, 2, 3))
                    parts[4][place] = wrong
                    self.refused(parts)
                    for at, row in ((0, 0), (1, 2)):
                        parts = as_lists(nothing(p, 2, 3))
                        parts[3][at][row][place] = wrong
                        self.refused(parts)

    def test_lists_stay_and_are_not_kept(self):
        parts = as_lists(random_sums(random.Random(153), 7, 2, 3))
        kept = copy.deepcopy(parts)
        told = made_sums(*parts)
        self.assertEqual(parts, kept)
        before = copy.deepcopy(told)
        parts[2][0] += 1
        parts[3][0][0][0] += 1
        parts[3][1].clear()
        parts[4].clear()
        self.assertEqual(told, before)


class WorthTest(RefusalTest):
    def test_by_hand(self):
        house = counter(5, 2)
        self.assertEqual(row_behind(house, ()), (1, 0))
        self.assertEqual(row_behind(house, (1, 0, 1)), (1, 2))
        self.assertEqual(worth(house, (1, 0, 1)), 2)
        self.assertEqual(worth(house, (1,) * 7 + (0,)), 2)
        # The row stands for factors of the table's rows, not of its columns.
        self.assertEqual(row_behind((7, 1, (1, 0), (((2, 3), (4, 5)),), (0, 0)), (0,)), (2, 3))

    def test_walks(self):
        chance = random.Random(154)
        for house in many_sums(155, 60, 6, 8) + [GREATEST]:
            for count in (0, 1, 2, 7, 30):
                word = random_word(chance, house[1], count)
                self.assertEqual(row_behind(house, word), row_by_hand(house, word))
                self.assertEqual(worth(house, word), worth_by_hand(house, word))

    def test_long_words(self):
        for p in PRIMES:
            house = counter(p, 3)
            self.assertEqual(worth(house, (2, 0, 1) * 200), 200 % p)
            self.assertEqual(worth(house, (2,) * 600), 600 % p)
        word = random_word(random.Random(156), 6, 600)
        self.assertEqual(row_behind(GREATEST, word), row_by_hand(GREATEST, word))

    def test_rows_of_no_numbers(self):
        for p in PRIMES:
            house = nothing(p, 2)
            for word in ((), (0,), (1, 0) * 300):
                self.assertEqual(row_behind(house, word), ())
                self.assertEqual(worth(house, word), 0)

    def test_numbers_that_are_no_letters(self):
        for house in (nothing(7, 1), counter(7, 2), GREATEST):
            for word in wrong_words(house[1]):
                self.assert_refused(BadWord, row_behind, house, word)
                self.assert_refused(BadWord, worth, house, word)


class PairTest(RefusalTest):
    def pairs(self):
        chance = random.Random(157)
        for number in range(80):
            p = chance.choice(PRIMES)
            letters = chance.randint(1, 4)
            one = random_sums(chance, p, letters, chance.randint(0, 5))
            yield one, random_sums(chance, p, letters, chance.randint(0, 5))

    def test_less_by_hand(self):
        one = (7, 1, (1, 2), (((1, 2), (3, 4)),), (5, 6))
        two = (7, 1, (3,), (((6,),),), (2,))
        self.assertEqual(
            sums_less(one, two),
            (7, 1, (1, 2, 3), (((1, 2, 0), (3, 4, 0), (0, 0, 6)),), (5, 6, 5)),
        )
        self.assertEqual(
            sums_less(two, one),
            (7, 1, (3, 1, 2), (((6, 0, 0), (0, 1, 2), (0, 3, 4)),), (2, 2, 1)),
        )

    def test_times_by_hand(self):
        one = (7, 1, (1, 2), (((1, 2), (3, 4)),), (5, 6))
        two = (7, 1, (3, 1), (((6, 0), (1, 1)),), (2, 1))
        self.assertEqual(
            sums_times(one, two),
            (
                7, 1, (3, 1, 6, 2),
                (((6, 0, 5, 0), (1, 1, 2, 2), (4, 0, 3, 0), (3, 3, 4, 4)),),
                (3, 5, 5, 6),
            ),
        )

    def test_worths(self):
        for one, two in self.pairs():
            p = one[0]
            less = sums_less(one, two)
            self.assertEqual(made_sums(*less), less)
            small = len(one[2]) * len(two[2]) <= 16
            if small:
                times = sums_times(one, two)
                self.assertEqual(made_sums(*times), times)
                self.assertEqual(len(times[2]), len(one[2]) * len(two[2]))
            else:
                self.assert_refused(BadHouse, sums_times, one, two)
            for word in words_by_hand(one[1], 3)[:30]:
                here, there = worth_by_hand(one, word), worth_by_hand(two, word)
                self.assertEqual(worth_by_hand(less, word), (here - there) % p)
                if small:
                    self.assertEqual(worth_by_hand(times, word), here * there % p)

    def test_rows_of_no_numbers(self):
        for p in PRIMES:
            none = nothing(p, 2)
            house = counter(p, 2)
            self.assertEqual(sums_less(house, none), house)
            self.assertEqual(sums_less(none, none), none)
            self.assertEqual(sums_times(house, none), none)
            self.assertEqual(sums_times(none, house), none)
            self.assertEqual(sums_less(none, house)[:4], house[:4])
            self.assertEqual(sums_less(none, house)[4], (0, p - 1))

    def test_just_sixteen_numbers_and_more(self):
        chance = random.Random(158)
        for one, two in ((8, 8), (16, 0), (15, 1), (0, 16)):
            pair = [random_sums(chance, 7, 1, size) for size in (one, two)]
            self.assertEqual(len(sums_less(*pair)[2]), 16)
        for one, two in ((16, 1), (1, 16), (9, 8), (16, 16)):
            pair = [random_sums(chance, 7, 1, size) for size in (one, two)]
            self.assert_refused(BadHouse, sums_less, *pair)
        for one, two in ((4, 4), (16, 1), (2, 8), (16, 0)):
            pair = [random_sums(chance, 7, 1, size) for size in (one, two)]
            self.assertEqual(len(sums_times(*pair)[2]), one * two)
        for one, two in ((16, 2), (17, 1), (3, 6), (6, 3), (16, 16)):
            pair = [random_sums(chance, 7, 1, size) for size in (one, two)]
            self.assert_refused(BadHouse, sums_times, *pair)

    def test_another_p_or_count_of_letters(self):
        for function in (sums_less, sums_times):
            for one, two in itertools.permutations(
                (nothing(7, 1), nothing(5, 1), nothing(7, 2), nothing(5, 2)), 2
            ):
                self.assert_refused(BadHouse, function, one, two)
            self.assert_refused(BadHouse, function, counter(7, 2), counter(7, 3))
            self.assert_refused(BadHouse, function, counter(7, 2), counter(GREAT, 2))


class BackTest(unittest.TestCase):
    def test_by_hand(self):
        house = (7, 2, (1, 2), (((1, 2), (3, 4)), ((5, 6), (0, 1))), (5, 6))
        self.assertEqual(
            sums_back(house),
            (7, 2, (5, 6), (((1, 3), (2, 4)), ((5, 0), (6, 1))), (1, 2)),
        )

    def test_there_and_back(self):
        chance = random.Random(159)
        for house in many_sums(160, 60, 6, 16) + [GREATEST]:
            told = sums_back(house)
            self.assertEqual(made_sums(*told), told)
            self.assertEqual(sums_back(told), house)
            for count in (0, 1, 2, 9):
                word = random_word(chance, house[1], count)
                self.assertEqual(worth_by_hand(told, word), worth_by_hand(house, word[::-1]))

    def test_rows_of_no_numbers(self):
        for letters in (1, 6):
            self.assertEqual(sums_back(nothing(2, letters)), nothing(2, letters))

    def test_first_or_last_row_of_noughts(self):
        house = late(7, 2, 3)
        empty = house[:4] + ((0, 0, 0),)
        self.assertEqual(sums_back(empty)[2], (0, 0, 0))
        self.assertEqual(worth(empty, (1, 1)), 0)
        empty = house[:2] + ((0, 0, 0),) + house[3:]
        self.assertEqual(sums_back(empty)[4], (0, 0, 0))
        self.assertEqual(worth(empty, (1, 1)), 0)


if __name__ == "__main__":
    unittest.main()
