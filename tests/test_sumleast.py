"""[0.2], [0.5], [7.6] to [7.9] and the interface's guessroom/sumleast.py."""

import itertools
import random
import unittest

from guessroom.errors import BadHouse
from guessroom.sumhouse import made_sums
from guessroom.sumleast import (
    sums_access, sums_alike, sums_basis, sums_difference, sums_least, sums_paper,
)
from refusals import RefusalTest
from samples import GREAT, PRIMES, random_word, words_by_hand
from sums import (
    GREATEST, counter, late, many_sums, nothing, padded, random_sums, rank_by_hand, row_by_hand,
    wheel, worth_by_hand,
)


def new_words(p, words, row_of):
    """Those words whose rows are not made of the rows of words ahead of them."""
    found = []
    rows = []
    for word in words:
        row = row_of(word)
        if rank_by_hand(p, rows + [row]) > len(rows):
            found.append(word)
            rows.append(row)
    return found


def basis_by_hand(house):
    words = words_by_hand(house[1], max(0, len(house[2]) - 1))
    return new_words(house[0], words, lambda word: row_by_hand(house, word))


def access_by_hand(house):
    """Of houses with few numbers: tails with fewer letters than those tell all that there is."""
    words = words_by_hand(house[1], max(0, len(house[2]) - 1))
    return new_words(
        house[0], words, lambda word: [worth_by_hand(house, word + tail) for tail in words]
    )


def made(p, rows, parts, size):
    return tuple(
        sum(part * row[place] for part, row in zip(parts, rows)) % p for place in range(size)
    )


def small_houses():
    """Every sum house by 2 with one letter and at most two numbers, and some more."""
    for size in (0, 1, 2):
        rows = list(itertools.product((0, 1), repeat=size))
        for first, last in itertools.product(rows, rows):
            for table in itertools.product(rows, repeat=size):
                yield (2, 1, first, (table,), last)
    for house in many_sums(161, 60, 2, 3, (2, 3), 1):
        yield house
    for house in many_sums(162, 40, 3, 3):
        yield house


class BasisTest(RefusalTest):
    def check(self, house):
        p, letters = house[:2]
        size = len(house[2])
        told = sums_basis(house)
        self.assertIs(type(told), tuple)
        self.assertEqual([type(part) for part in told], [list, list])
        words, tables = told
        self.assertEqual(len(tables), len(words))
        rows = [row_by_hand(house, word) for word in words]
        for word, table in zip(words, tables):
            self.assertEqual((type(table), len(table)), (list, letters))
            for letter, parts in enumerate(table):
                self.assertEqual((type(parts), len(parts)), (list, len(words)))
                due = row_by_hand(house, word + (letter,))
                self.assertEqual(made(p, rows, parts, size), due)
        self.assertLessEqual(len(words), size)
        self.assertEqual(rank_by_hand(p, rows), len(words))
        return words

    def test_by_hand(self):
        self.assertEqual(
            sums_basis(counter(5, 2)), ([(), (1,)], [[[1, 0], [0, 1]], [[0, 1], [4, 2]]])
        )

    def test_small_houses(self):
        for house in small_houses():
            self.assertEqual(self.check(house), basis_by_hand(house))

    def test_greater_houses(self):
        for house in many_sums(163, 25, 6, 16) + [GREATEST]:
            words = self.check(house)
            self.assertEqual(words, sorted(words, key=lambda word: (len(word), word)))
            for word in words[1:]:
                self.assertIn(word[:-1], words)

    def test_nothing_but_noughts_in_the_first_row(self):
        for p in PRIMES:
            for size in (0, 1, 16):
                self.assertEqual(sums_basis(nothing(p, 3, size)), ([], []))

    def test_a_last_row_of_noughts_changes_nothing(self):
        house = late(7, 2, 4)
        empty = house[:4] + ((0,) * 4,)
        self.assertEqual(sums_basis(empty), sums_basis(house))
        self.assertEqual(sums_basis(house)[0], [(), (1,), (1, 1), (1, 1, 1)])

    def test_what_is_told_shares_no_list(self):
        told = sums_basis(counter(5, 2))
        kept = sums_basis(counter(5, 2))
        told[1][0][0].append(9)
        told[1][0][1].clear()
        told[1][1].clear()
        told[0].clear()
        self.assertEqual(sums_basis(counter(5, 2)), kept)
        self.assertEqual(len({id(parts) for table in kept[1] for parts in table}), 4)


class DifferenceTest(RefusalTest):
    def check(self, house, other):
        told = sums_difference(house, other)
        self.assertIs(sums_alike(house, other), told is None)
        most = len(house[2]) + len(other[2]) - 1
        if told is not None:
            self.assertLessEqual(len(told), most)
            self.assertNotEqual(worth_by_hand(house, told), worth_by_hand(other, told))
        return told

    def by_hand(self, house, other):
        for word in words_by_hand(house[1], len(house[2]) + len(other[2])):
            if worth_by_hand(house, word) != worth_by_hand(other, word):
                return word
        return None

    def test_small_houses(self):
        chance = random.Random(164)
        houses = list(small_houses())
        for number in range(500):
            house = chance.choice(houses)
            fitting = [other for other in houses if other[:2] == house[:2]]
            other = chance.choice(fitting)
            self.assertEqual(self.check(house, other), self.by_hand(house, other))

    def test_a_word_with_one_letter_fewer_than_both_counts(self):
        for p in (2, GREAT):
            for letters in (1, 2, 6):
                for size, others in ((1, 1), (2, 1), (1, 2), (3, 2), (2, 3), (16, 15), (16, 16)):
                    house, other = late_sums(p, letters, size, others)
                    due = (letters - 1,) * (size + others - 1)
                    self.assertEqual(self.check(house, other), due)
                    self.assertEqual(self.check(other, house), due)

    def test_the_same_worths_with_unlike_counts(self):
        chance = random.Random(165)
        for house in many_sums(166, 40, 3, 4) + [counter(7, 6), nothing(2, 1)]:
            other = padded(house, chance)
            self.assertIsNone(self.check(house, other))
            self.assertIsNone(self.check(padded(other, chance), house))

    def test_nothing(self):
        for p in PRIMES:
            self.assertIsNone(self.check(nothing(p, 2), nothing(p, 2, 16)))
            self.assertEqual(self.check(nothing(p, 2), counter(p, 2)), (1,))

    def test_a_first_or_a_last_row_of_noughts(self):
        house = late(7, 2, 4)
        for empty in (house[:4] + ((0,) * 4,), house[:2] + ((0,) * 4,) + house[3:]):
            self.assertIsNone(self.check(empty, nothing(7, 2)))
            self.assertEqual(self.check(empty, house), (1, 1, 1))

    def test_sixteen_numbers_each(self):
        self.assertIsNone(self.check(GREATEST, GREATEST))
        other = random_sums(random.Random(167), GREAT, 6, 16)
        self.assertEqual(self.check(GREATEST, other), ())

    def test_another_p_or_count_of_letters(self):
        for function in (sums_difference, sums_alike):
            for one, two in itertools.permutations(
                (nothing(7, 1), nothing(5, 1), nothing(7, 2), counter(7, 3), counter(3, 3)), 2
            ):
                self.assert_refused(BadHouse, function, one, two)


def by_steps(p, letters, start, parts):
    """Words with n times the last letter are worth start[n], and each later worth is made of as
    many worths ahead of it, by the parts; the other letters change nothing."""
    size = len(start)
    rows = [tuple(int(k == place) for k in range(size)) for place in range(size)]
    tables = (tuple(rows),) * (letters - 1) + (tuple(rows[1:] + [tuple(parts)]),)
    return (p, letters, rows[0], tables, tuple(start))


def late_sums(p, letters, size, others):
    """Two houses that are told apart by no word with fewer times the last letter than
    size + others - 1: the one goes round, the other is the same but comes to an end."""
    worths = [int(n % others == (size - 1) % others) for n in range(size + others)]
    one = by_steps(p, letters, worths[:size], [0] * size)
    return one, by_steps(p, letters, worths[:others], [1] + [0] * (others - 1))


class LeastTest(RefusalTest):
    def check(self, house):
        """[7.8], by hand where the house is small."""
        p, letters = house[:2]
        access = sums_access(house)
        least = sums_least(house)
        self.assertEqual(made_sums(*least), least)
        size = len(least[2])
        self.assertEqual(len(access), size)
        self.assertEqual(least[2], (1,) + (0,) * (size - 1) if size else ())
        self.assertEqual(least[4], tuple(worth_by_hand(house, word) for word in access))
        for place, word in enumerate(access):
            unit = tuple(int(k == place) for k in range(size))
            self.assertEqual(row_by_hand(least, word), unit)
        chance = random.Random(168)
        for count in (0, 1, 2, 3, 5, 9, 17, 40):
            word = random_word(chance, letters, count)
            self.assertEqual(worth_by_hand(least, word), worth_by_hand(house, word))
        self.assertEqual(sums_least(least), least)
        self.assertEqual(sums_access(least), access)
        return access

    def test_by_hand(self):
        stay = ((1, 0, 0), (0, 1, 0), (0, 0, 1))
        house = (5, 2, (1, 0, 3), (stay, ((1, 1, 0), (0, 1, 0), (0, 0, 2))), (0, 1, 0))
        self.assertEqual(sums_access(house), [(), (1,)])
        self.assertEqual(
            sums_least(house), (5, 2, (1, 0), (((1, 0), (0, 1)), ((0, 1), (4, 2))), (0, 1))
        )

    def test_small_houses(self):
        for house in small_houses():
            access = self.check(house)
            self.assertEqual(access, access_by_hand(house))
            tails = words_by_hand(house[1], max(0, len(house[2]) - 1))
            table = [[worth_by_hand(house, word + tail) for tail in tails] for word in tails]
            self.assertEqual(len(access), rank_by_hand(house[0], table))

    def test_each_table_tells_its_factors(self):
        for house in list(small_houses())[::3]:
            access = sums_access(house)
            least = sums_least(house)
            tails = words_by_hand(house[1], max(0, len(house[2]) - 1))
            rows = [[worth_by_hand(house, word + tail) for tail in tails] for word in access]
            for letter, table in enumerate(least[3]):
                for word, parts in zip(access, table):
                    due = tuple(worth_by_hand(house, word + (letter,) + tail) for tail in tails)
                    self.assertEqual(made(house[0], rows, parts, len(tails)), due)

    def test_greater_houses(self):
        for house in many_sums(169, 25, 6, 16) + [GREATEST]:
            self.check(house)
        self.assertEqual(len(sums_access(GREATEST)), 16)

    def test_nothing(self):
        for p in PRIMES:
            for letters in (1, 6):
                for size in (0, 1, 16):
                    self.assertEqual(sums_least(nothing(p, letters, size)), nothing(p, letters))
                    self.assertEqual(sums_access(nothing(p, letters, size)), [])

    def test_a_first_or_a_last_row_of_noughts(self):
        house = late(7, 2, 4)
        for empty in (house[:4] + ((0,) * 4,), house[:2] + ((0,) * 4,) + house[3:]):
            self.assertEqual(sums_least(empty), nothing(7, 2))
            self.assertEqual(sums_access(empty), [])

    def test_late_worths(self):
        for p in (2, GREAT):
            for size in (1, 2, 16):
                house = late(p, 2, size)
                access = [(1,) * count for count in range(size)]
                self.assertEqual(self.check(house), access)
                self.assertEqual(self.check(wheel(p, 2, size)), access)

    def test_equal_just_where_worths_are_alike(self):
        chance = random.Random(170)
        for house in many_sums(171, 40, 3, 4) + [counter(7, 6)]:
            least = sums_least(house)
            other = padded(padded(house, chance), chance)
            self.assertEqual(sums_least(other), least)
            self.assertEqual(sums_access(other), sums_access(house))
        houses = list(small_houses())
        for number in range(300):
            one, two = chance.sample(houses, 2)
            if one[:2] == two[:2]:
                same = sums_least(one) == sums_least(two)
                self.assertIs(sums_alike(one, two), same)

    def test_lists_are_their_askers_own(self):
        self.assert_own_list(sums_access, counter(5, 2))
        self.assert_own_list(sums_access, nothing(5, 2))


class PaperTest(RefusalTest):
    def check(self, house):
        told = sums_paper(house)
        self.assertEqual([type(told)] + [type(part) for part in told], [tuple, list, list, list])
        access, tails, undone = told
        p = house[0]
        size = len(access)
        self.assertEqual(access, sums_access(house))
        self.assertEqual(len(tails), size)
        self.assertTrue(all(type(tail) is tuple and len(tail) < size for tail in tails))
        rows = [[worth_by_hand(house, word + tail) for tail in tails] for word in access]
        self.assertEqual(len(undone), size)
        for place, parts in enumerate(undone):
            self.assertEqual((type(parts), len(parts)), (list, size))
            self.assertTrue(all(0 <= part < p for part in parts))
            unit = tuple(int(k == place) for k in range(size))
            self.assertEqual(made(p, rows, parts, size), unit)
        return told

    def test_small_and_greater_houses(self):
        for house in list(small_houses()) + many_sums(172, 25, 6, 16) + [GREATEST]:
            self.check(house)

    def test_late_worths(self):
        for p in (2, GREAT):
            for size in (1, 2, 16):
                self.check(late(p, 3, size))
                self.check(wheel(p, 1, size))

    def test_nothing(self):
        for p in PRIMES:
            for size in (0, 3):
                self.assertEqual(sums_paper(nothing(p, 2, size)), ([], [], []))

    def test_what_is_told_shares_no_list(self):
        kept = sums_paper(counter(5, 2))
        told = sums_paper(counter(5, 2))
        told[2][0].clear()
        for part in told:
            part.clear()
        self.assertEqual(sums_paper(counter(5, 2)), kept)
        self.check(counter(5, 2))


if __name__ == "__main__":
    unittest.main()
