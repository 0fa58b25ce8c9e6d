"""[0.2], [0.4], [2.2], [2.3], [2.4] and the interface's guessroom/telling.py."""

import itertools
import random
import unittest

from guessroom.errors import BadHouse
from guessroom.telling import apart, difference, pairs, tellers
from refusals import RefusalTest
from samples import (
    TOP, all_houses, answer, chain, late_pair, pairs_told_apart, random_house, random_houses, ring,
    words_by_hand,
)

SMALL = ((1, 1), (1, 2), (1, 3), (2, 2), (3, 2))
ONE_ROOM = (1, (7,), ((0,),))


def rooms_of(house):
    return range(len(house[1]))


def first_word(words, tells_apart):
    """The first of the words of which the function tells True, or None."""
    for word in words:
        if tells_apart(word):
            return word
    return None


def with_mark(house, room, mark):
    marks = list(house[1])
    marks[room] = mark
    return (house[0], tuple(marks), house[2])


def with_way(house, room, letter, goal):
    ways = [list(row) for row in house[2]]
    ways[room][letter] = goal
    return (house[0], house[1], tuple(tuple(row) for row in ways))


class ApartTest(unittest.TestCase):
    def by_hand(self, house, one, other, most):
        return first_word(
            words_by_hand(house[0], most),
            lambda word: answer(house, word, one) != answer(house, word, other),
        )

    def test_by_hand(self):
        house = (2, (5, 5, 5, 9), ((1, 2), (3, 1), (2, 3), (3, 3)))
        self.assertEqual(apart(house, 0, 3), ())
        self.assertEqual(apart(house, 0, 1), (0,))
        self.assertEqual(apart(house, 0, 2), (1,))
        self.assertEqual(apart(house, 1, 2), (0,))
        self.assertEqual(apart(house, 2, 1), (0,))

    def test_the_shorter_word_and_then_the_lesser_one(self):
        # (1,) tells rooms 0 and 1 apart, and so do (0, 0) and (2,).
        ways = ((2, 4, 4), (3, 5, 5), (4, 2, 2), (5, 3, 3), (4, 4, 4), (5, 5, 5))
        house = (3, (0, 0, 0, 0, 1, 2), ways)
        self.assertEqual(apart(house, 0, 1), (1,))

    def test_one_room_and_the_same_room(self):
        self.assertIsNone(apart(ONE_ROOM, 0, 0))
        self.assertIsNone(apart((6, (0,), ((0,) * 6,)), 0, 0))
        house = ring(6, 40, range(40))
        for room in rooms_of(house):
            self.assertIsNone(apart(house, room, room))

    def test_all_small_houses(self):
        for letters, rooms in SMALL:
            for house in all_houses(letters, rooms, (0, 1)):
                for one, other in itertools.product(range(rooms), repeat=2):
                    due = self.by_hand(house, one, other, rooms)
                    self.assertEqual(apart(house, one, other), due, (house, one, other))

    def test_greater_houses(self):
        for house in random_houses(1, 60, most_letters=2, most_rooms=7):
            told = pairs_told_apart(house, house)
            for one, other in itertools.product(rooms_of(house), repeat=2):
                word = apart(house, one, other)
                self.assertEqual(word is not None, (one, other) in told)
                if word is not None:
                    self.assertLessEqual(len(word), len(house[1]) - 2)
                    self.assertEqual(word, self.by_hand(house, one, other, len(word)))

    def test_the_longest_least_words(self):
        for rooms in (2, 3, 10, 40):
            for letters in (1, 2, 6):
                house = chain(letters, rooms)
                word = (letters - 1,) * (rooms - 2)
                self.assertEqual(apart(house, 0, 1), word)
                self.assertEqual(apart(house, 1, 0), word)

    def test_rooms_that_no_word_reaches(self):
        house = (1, (0, 0, 0, 1), ((0,), (2,), (3,), (3,)))
        self.assertEqual(apart(house, 0, 3), ())
        self.assertEqual(apart(house, 2, 0), (0,))
        self.assertEqual(apart(house, 1, 0), (0, 0))
        self.assertEqual(apart(house, 1, 2), (0,))
        lonely = (2, (4,) * 40, ((0, 0),) + tuple((room, 0) for room in range(1, 40)))
        self.assertIsNone(apart(lonely, 17, 39))

    def test_marks_all_alike(self):
        house = ring(6, 40, (3,) * 40)
        for room in rooms_of(house):
            self.assertIsNone(apart(house, 0, room))
            self.assertIsNone(apart(house, room, 39))

    def test_one_mark_alone_unlike(self):
        house = ring(1, 40, (0,) * 39 + (TOP,))
        for one, other in itertools.product(range(40), repeat=2):
            due = None if one == other else (0,) * (39 - max(one, other))
            self.assertEqual(apart(house, one, other), due)

    def test_least_and_greatest_mark(self):
        house = (1, (0, TOP, TOP), ((0,), (1,), (2,)))
        self.assertEqual(apart(house, 0, 1), ())
        self.assertIsNone(apart(house, 1, 2))


class PairsTest(RefusalTest):
    def by_hand(self, house, other):
        """In words of as many letters as there may be pairs, but for one, all come to light."""
        most = len(house[1]) * len(other[1]) - 1
        found = {}
        for word in words_by_hand(house[0], most):
            one = two = 0
            for letter in word:
                one, two = house[2][one][letter], other[2][two][letter]
            found[(one, two)] = True
        return list(found)

    def test_by_hand(self):
        house = (2, (0, 0), ((1, 0), (1, 0)))
        other = (2, (0, 0, 0), ((0, 2), (2, 1), (1, 1)))
        self.assertEqual(pairs(house, other), [(0, 0), (1, 0), (0, 2), (1, 1), (0, 1), (1, 2)])
        self.assertEqual(pairs(other, house), [(0, 0), (0, 1), (2, 0), (1, 1), (1, 0), (2, 1)])

    def test_a_house_with_itself(self):
        house = (1, (3, 4, 5), ((2,), (0,), (2,)))
        self.assertEqual(pairs(house, house), [(0, 0), (2, 2)])
        self.assertEqual(pairs(ONE_ROOM, ONE_ROOM), [(0, 0)])

    def test_marks_do_not_matter(self):
        house = ring(1, 2, (0, 1))
        other = ring(1, 3, (0, 1, 2))
        due = [(0, 0), (1, 1), (0, 2), (1, 0), (0, 1), (1, 2)]
        self.assertEqual(pairs(house, other), due)
        self.assertEqual(pairs(with_mark(house, 0, TOP), other), due)

    def test_all_small_houses(self):
        for letters, rooms, others in ((1, 3, 3), (2, 2, 2), (2, 1, 3), (2, 3, 1)):
            for house in all_houses(letters, rooms, (0,)):
                for other in all_houses(letters, others, (0,)):
                    self.assertEqual(pairs(house, other), self.by_hand(house, other))

    def test_houses_of_three_rooms(self):
        chance = random.Random(2)
        for number in range(40):
            house = random_house(chance, 2, 3)
            other = random_house(chance, 2, 3)
            self.assertEqual(pairs(house, other), self.by_hand(house, other))

    def test_forty_rooms(self):
        told = pairs(ring(1, 40, (0,) * 40), ring(1, 39, (0,) * 39))
        self.assertEqual(told, [(count % 40, count % 39) for count in range(1560)])
        told = pairs(ring(6, 40, (0,) * 40), ring(6, 39, (0,) * 39))
        self.assertEqual(told[:8], [(k, k) for k in range(7)] + [(7, 7)])
        self.assertEqual(len(told), 1560)
        self.assertEqual(len(set(told)), 1560)

    def test_other_counts_of_letters(self):
        for one, two in itertools.permutations(range(1, 7), 2):
            house = (one, (0,), ((0,) * one,))
            other = ring(two, 40, range(40))
            self.assert_refused(BadHouse, pairs, house, other)
            self.assert_refused(BadHouse, pairs, other, house)

    def test_lists_are_their_askers_own(self):
        self.assert_own_list(pairs, ring(2, 3, (0,) * 3), ring(2, 4, (0,) * 4))


class DifferenceTest(RefusalTest):
    def by_hand(self, house, other, most):
        return first_word(
            words_by_hand(house[0], most),
            lambda word: answer(house, word) != answer(other, word),
        )

    def test_by_hand(self):
        house = (2, (0, 1), ((0, 1), (1, 0)))
        self.assertEqual(difference(house, (2, (1, 0), ((0, 1), (1, 0)))), ())
        self.assertEqual(difference(house, (2, (0, 1), ((0, 1), (1, 1)))), (1, 1))
        self.assertEqual(difference(house, (2, (0, 1), ((1, 1), (1, 0)))), (0,))
        self.assertIsNone(difference(house, (2, (0, 1, 1), ((0, 2), (2, 0), (1, 0)))))

    def test_all_small_houses(self):
        for letters, rooms, others in ((1, 2, 3), (1, 3, 2), (2, 2, 2), (2, 1, 2), (3, 2, 1)):
            for house in all_houses(letters, rooms, (0, 1)):
                for other in all_houses(letters, others, (0, 1)):
                    due = self.by_hand(house, other, rooms + others - 1)
                    self.assertEqual(difference(house, other), due, (house, other))

    def test_greater_houses(self):
        chance = random.Random(3)
        for number in range(150):
            letters = chance.randint(1, 2)
            house = random_house(chance, letters, chance.randint(1, 6))
            other = random_house(chance, letters, chance.randint(1, 6))
            word = difference(house, other)
            self.assertEqual(word is not None, (0, 0) in pairs_told_apart(house, other))
            if word is not None:
                self.assertLessEqual(len(word), len(house[1]) + len(other[1]) - 2)
                self.assertEqual(word, self.by_hand(house, other, len(word)))

    def test_the_longest_least_words(self):
        for rooms, others in ((1, 1), (1, 2), (2, 1), (2, 2), (7, 5), (1, 40), (40, 1), (40, 39)):
            for letters in (1, 2):
                house, other = late_pair(letters, rooms, others)
                word = (letters - 1,) * (rooms + others - 2)
                self.assertEqual(difference(house, other), word)
                self.assertEqual(difference(other, house), word)
        house, other = late_pair(6, 40, 40)
        self.assertEqual(difference(house, other), (5,) * 78)

    def test_a_house_and_itself(self):
        for house in (ONE_ROOM, ring(6, 40, range(40)), chain(1, 40)):
            self.assertIsNone(difference(house, house))

    def test_alike_but_for_one_mark(self):
        house = chain(2, 40, range(40))
        for room in range(40):
            for mark in (TOP, TOP - 1):
                other = with_mark(house, room, mark)
                self.assertEqual(difference(house, other), (1,) * room)
                self.assertEqual(difference(other, house), (1,) * room)

    def test_alike_but_for_one_way(self):
        house = chain(2, 40, range(40))
        for room in range(39):
            other = with_way(house, room, 0, 39)
            self.assertEqual(difference(house, other), (1,) * room + (0,))
            self.assertEqual(difference(other, house), (1,) * room + (0,))

    def test_a_room_that_no_word_reaches_tells_nothing(self):
        house = (1, (0, 1, 5), ((1,), (0,), (2,)))
        self.assertIsNone(difference(house, with_mark(house, 2, TOP)))
        self.assertIsNone(difference(house, with_way(house, 2, 0, 0)))
        self.assertIsNone(difference(house, (1, (0, 1), ((1,), (0,)))))

    def test_other_counts_of_letters(self):
        for one, two in itertools.permutations(range(1, 7), 2):
            house = (one, (0,), ((0,) * one,))
            other = ring(two, 40, range(40))
            self.assert_refused(BadHouse, difference, house, other)
            self.assert_refused(BadHouse, difference, other, house)
            self.assert_refused(BadHouse, difference, house, (two, (1,), ((0,) * two,)))


class TellersTest(RefusalTest):
    def check(self, house):
        words = tellers(house)
        self.assertEqual(words[0], ())
        self.assertEqual(len(set(words)), len(words))
        for place, word in enumerate(words):
            self.assertIs(type(word), tuple)
            self.assertTrue(all(0 <= letter < house[0] for letter in word))
            if place > 0:
                self.assertIn(word[1:], words[:place])
                self.assertNotEqual(word, ())
        rows = [[answer(house, word, room) for word in words] for room in rooms_of(house)]
        apart_by_hand = pairs_told_apart(house, house)
        for one, other in itertools.product(rooms_of(house), repeat=2):
            self.assertEqual(rows[one] != rows[other], (one, other) in apart_by_hand)
        classes = {
            min(other for other in rooms_of(house) if (room, other) not in apart_by_hand)
            for room in rooms_of(house)
        }
        self.assertLessEqual(len(words), len(classes))
        return words

    def test_marks_all_alike(self):
        for house in (ONE_ROOM, chain(1, 40, (0,) * 40), ring(6, 40, (TOP,) * 40)):
            self.assertEqual(self.check(house), [()])

    def test_marks_all_unlike(self):
        self.check(ring(6, 40, range(40)))
        self.check(ring(1, 40, range(40)))

    def test_one_mark_alone_unlike(self):
        self.assertEqual(self.check(chain(1, 40)), [(0,) * count for count in range(39)])
        self.check(chain(6, 40))
        self.check(ring(1, 40, (0,) * 39 + (TOP,)))
        self.check(ring(6, 40, (0,) * 20 + (TOP,) + (0,) * 19))

    def test_all_small_houses(self):
        for letters, rooms in SMALL:
            for house in all_houses(letters, rooms, (0, 1)):
                self.check(house)

    def test_greater_houses(self):
        for house in random_houses(4, 150, most_letters=6, most_rooms=12):
            self.check(house)
        for house in random_houses(5, 60, most_letters=2, most_rooms=12, marks=(0,) * 9 + (TOP,)):
            self.check(house)

    def test_forty_rooms(self):
        chance = random.Random(6)
        for letters in (1, 2, 6):
            self.check(random_house(chance, letters, 40))

    def test_rooms_that_no_word_reaches_are_told_apart_too(self):
        house = (1, (0, 0, 0, 1), ((0,), (2,), (3,), (3,)))
        words = self.check(house)
        self.assertEqual(sorted(words), [(), (0,), (0, 0)])

    def test_the_same_for_the_same_house(self):
        for house in random_houses(7, 30, most_letters=4, most_rooms=10):
            again = (house[0], tuple(list(house[1])), tuple(tuple(list(row)) for row in house[2]))
            self.assertEqual(tellers(house), tellers(again))

    def test_lists_are_their_askers_own(self):
        self.assert_own_list(tellers, chain(2, 5))


if __name__ == "__main__":
    unittest.main()
