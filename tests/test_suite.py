"""[0.2], [3.1] to [3.5] and the interface's guessroom/suite.py."""

import copy
import itertools
import random
import unittest

from guessroom.errors import BadWord
from guessroom.least import alike, least
from guessroom.suite import first_failed, passes, slim, suite, trials_of
from guessroom.telling import tellers
from refusals import RefusalTest
from samples import (
    TOP, all_houses, answer, chain, least_words_in, random_house, random_word, reached_by_hand,
    ring, words_by_hand, wrong_words,
)

ONE_ROOM = (1, (7,), ((0,),))
THREE = (2, (5, 0, 9), ((1, 2), (2, 1), (0, 1)))
# The least house of this one has three rooms.
SPARE = (2, (5, 0, 9, 9, 1), ((1, 2), (2, 1), (0, 1), (0, 1), (4, 4)))


def ordered(words):
    return sorted(set(words), key=lambda word: (len(word), word))


def room_behind_by_hand(house, word):
    room = 0
    for letter in word:
        room = house[2][room][letter]
    return room


def firsts(house, more):
    """The first two parts of the words of a suite."""
    ways = least_words_in(least(house)).values()
    return [way + word for way in ways for word in words_by_hand(house[0], more + 1)]


def suite_by_hand(house, more):
    ends = tellers(least(house))
    return ordered(first + end for first in firsts(house, more) for end in ends)


def own_words_by_hand(house, room):
    """Of a least house: the own telling words of the room."""
    own = [()]
    for other in range(len(house[1])):
        if other != room:
            own.append(next(
                word for word in tellers(house)
                if answer(house, word, room) != answer(house, word, other)
            ))
    return own


def slim_by_hand(house, more):
    base = least(house)
    words = []
    for first in firsts(house, more):
        room = room_behind_by_hand(base, first)
        words.extend(first + end for end in own_words_by_hand(base, room))
    return ordered(words)


def fitting(house, more):
    """True where the counts keep to the interface's bound."""
    rooms = len(least(house)[1])
    return rooms * len(words_by_hand(house[0], more + 1)) * rooms <= 4000


class SuiteTest(RefusalTest):
    def check(self, house, more):
        told = suite(house, more)
        self.assertEqual(told, suite_by_hand(house, more))
        slim_told = slim(house, more)
        self.assertEqual(slim_told, slim_by_hand(house, more))
        self.assertLessEqual(set(slim_told), set(told))

    def test_one_room(self):
        for letters in range(1, 7):
            for more in range(4):
                house = (letters, (7,), ((0,) * letters,))
                due = words_by_hand(letters, more + 1)
                self.assertEqual(suite(house, more), due)
                self.assertEqual(slim(house, more), due)

    def test_by_hand(self):
        house = (1, (0, 1), ((1,), (1,)))
        for more in range(4):
            due = [(0,) * count for count in range(more + 3)]
            self.assertEqual(suite(house, more), due)
            self.assertEqual(slim(house, more), due)

    def test_the_slim_one_leaves_words_out(self):
        # With (0,) room 2 alone needs no telling word but ().
        house = (1, (0, 0, 1), ((1,), (2,), (0,)))
        self.assertEqual(tellers(house), [(), (0,)])
        self.assertEqual(suite(house, 0), [(0,) * count for count in range(5)])
        self.assertEqual(slim(house, 0), [(0,) * count for count in range(5)])
        wide = (2, (0, 0, 1), ((1, 0), (2, 1), (0, 2)))
        self.check(wide, 0)
        self.assertLess(len(slim(wide, 0)), len(suite(wide, 0)))

    def test_rooms_not_reached_and_rooms_like_others_add_nothing(self):
        for more in range(4):
            self.check(SPARE, more)
            self.assertEqual(suite(SPARE, more), suite(THREE, more))
            self.assertEqual(slim(SPARE, more), slim(THREE, more))

    def test_small_houses(self):
        for letters, rooms in ((1, 2), (1, 3), (2, 2), (3, 2)):
            for house in list(all_houses(letters, rooms, (0, TOP)))[::7]:
                for more in range(4):
                    if fitting(house, more):
                        self.check(house, more)

    def test_greater_houses(self):
        chance = random.Random(21)
        for letters in range(1, 7):
            for more in range(4):
                for rooms in (2, 3, 5, 8):
                    house = random_house(chance, letters, rooms)
                    if fitting(house, more):
                        self.check(house, more)

    def test_forty_rooms(self):
        for house in (chain(1, 40), ring(1, 40, range(40)), ring(6, 40, (3,) * 40)):
            self.check(house, 0)

    def test_lists_are_their_askers_own(self):
        for more in (0, 1):
            self.assert_own_list(suite, THREE, more)
            self.assert_own_list(slim, THREE, more)

    def check_enough(self, house, more, others):
        """[3.5]: of these houses those alone pass that answer every word alike."""
        whole = trials_of(house, suite(house, more))
        small = trials_of(house, slim(house, more))
        for other in others:
            due = alike(house, other)
            self.assertIs(passes(other, whole), due, (house, other))
            self.assertIs(passes(other, small), due, (house, other))

    def test_enough_for_one_letter(self):
        for rooms in (1, 2, 3):
            for house in all_houses(1, rooms, (0, 1)):
                more = 3 - len(least(house)[1])
                for count in (1, 2, 3):
                    self.check_enough(house, more, all_houses(1, count, (0, 1)))

    def test_enough_for_two_letters(self):
        others = [house for rooms in (1, 2) for house in all_houses(2, rooms, (0, 1))]
        for house in others:
            self.check_enough(house, 2 - len(least(house)[1]), others)
        three = list(all_houses(2, 3, (0, 1)))
        for house in three[::611]:
            self.check_enough(house, 3 - len(least(house)[1]), three[::2])

    def test_enough_where_rooms_are_not_reached(self):
        others = [
            house for house in all_houses(1, 4, (0, 1)) if len(reached_by_hand(house)) <= 2
        ]
        for house in all_houses(1, 2, (0, 1)):
            self.check_enough(house, 2 - len(least(house)[1]), others)

    def test_enough_for_each_room_more(self):
        for more in range(4):
            for letters in (1, 2, 5):
                house = (letters, (0,), ((0,) * letters,))
                self.check_enough(house, more, [chain(letters, more + 1)])


class TrialsTest(RefusalTest):
    def test_trials(self):
        words = [(0, 1), (), (1,), (0, 1), (1,) * 400]
        told = trials_of(THREE, words)
        self.assertEqual(told, [((0, 1), 0), ((), 5), ((1,), 9), ((0, 1), 0), ((1,) * 400, 0)])
        self.assertEqual([type(trial) for trial in told], [tuple] * 5)

    def test_empty_rows(self):
        for house in (ONE_ROOM, THREE, ring(6, 40, range(40))):
            self.assertEqual(trials_of(house, []), [])
            self.assertIs(passes(house, []), True)
            self.assertIsNone(first_failed(house, []))

    def test_long_words(self):
        chance = random.Random(22)
        for letters, rooms in ((1, 40), (2, 39), (6, 40)):
            house = ring(letters, rooms, [TOP - room for room in range(rooms)])
            words = [random_word(chance, letters, count) for count in (399, 400, 600)]
            some = trials_of(house, words)
            self.assertEqual(some, [(word, answer(house, word)) for word in words])
            self.assertIs(passes(house, some), True)
            some.append((words[0] + (0,), answer(house, words[0] + (0,)) - 1))
            self.assertIs(passes(house, some), False)
            self.assertEqual(first_failed(house, some), some[3])

    def test_the_first_one_failed(self):
        some = [((), 5), ((0,), 0), ((1,), 9), ((0, 0), 9)]
        self.assertIs(passes(THREE, some), True)
        self.assertIsNone(first_failed(THREE, some))
        for count in range(1, 5):
            for places in itertools.combinations(range(4), count):
                wrong = list(some)
                for place in places:
                    wrong[place] = (some[place][0], some[place][1] + 1)
                self.assertIs(passes(THREE, wrong), False)
                self.assertEqual(first_failed(THREE, wrong), wrong[places[0]])

    def test_least_and_greatest_mark(self):
        house = (1, (0, TOP), ((1,), (0,)))
        self.assertEqual(trials_of(house, [(), (0,)]), [((), 0), ((0,), TOP)])
        self.assertIs(passes(house, [((), 0), ((0,), TOP)]), True)
        self.assertEqual(first_failed(house, [((), 0), ((0,), 0)]), ((0,), 0))
        self.assertEqual(first_failed(house, [((), TOP), ((0,), TOP)]), ((), TOP))

    def test_one_word_twice(self):
        self.assertIs(passes(THREE, [((), 5), ((), 5)]), True)
        self.assertEqual(first_failed(THREE, [((), 5), ((), 6), ((), 7)]), ((), 6))

    def test_numbers_that_are_no_letters(self):
        for house in (ONE_ROOM, THREE, ring(6, 40, range(40))):
            mark = house[1][0]
            for word in wrong_words(house[0]):
                for words in ([word], [(), word], [word, ()], [(), word, ()]):
                    self.assert_refused(BadWord, trials_of, house, words)
                for some in (
                    [(word, mark)],
                    [((), mark), (word, mark)],
                    [((), mark + 1), (word, mark)],
                    [(word, mark), ((), mark + 1)],
                    [((), mark), ((), mark + 1), ((), mark), (word, mark), ((), mark)],
                ):
                    self.assert_refused(BadWord, passes, house, some)
                    self.assert_refused(BadWord, first_failed, house, some)

    def test_rows_stay_as_they_were(self):
        words = [(1,), (), (0, 0)]
        some = [((1,), 9), ((), 4), ((0,), 0)]
        kept = copy.deepcopy((words, some))
        told = trials_of(THREE, words)
        passes(THREE, some)
        first_failed(THREE, some)
        self.assertEqual((words, some), kept)
        words.clear()
        self.assertEqual(told, [((1,), 9), ((), 5), ((0, 0), 9)])

    def test_lists_are_their_askers_own(self):
        self.assert_own_list(trials_of, THREE, [(1,), ()])


if __name__ == "__main__":
    unittest.main()
