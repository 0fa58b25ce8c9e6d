"""[0.2], [0.5], [6.1] to [6.3] and the interface's guessroom/sayhouse.py."""

import copy
import itertools
import random
import unittest

from guessroom.errors import BadHouse, BadWord
from guessroom.house import made
from guessroom.sayhouse import (
    last_said, made_says, marks_from, said, says_difference, says_from, says_least,
)
from refusals import RefusalTest
from samples import (
    FAR, TOP, all_houses, all_says, answer, least_words_in, many_says, pairs_told_apart,
    random_houses, random_says, random_word, reached_by_hand, say_answer, words_by_hand,
    wrong_words,
)

ONE_ROOM = (1, ((7,),), ((0,),))
TWO = (2, ((4, 5), (6, 4)), ((1, 0), (1, 0)))


def ring_says(letters, rooms, marks):
    """Letter k leads k + 1 rooms on, and round; each way says the next of the marks."""
    left = itertools.cycle(marks)
    says = tuple(tuple(next(left) for k in range(letters)) for room in range(rooms))
    ways = tuple(tuple((room + k + 1) % rooms for k in range(letters)) for room in range(rooms))
    return (letters, says, ways)


def chain_says(rooms, late):
    """One letter leads on to the last room; the last way alone says another mark."""
    says = tuple((late if room == rooms - 1 else 0,) for room in range(rooms))
    return (1, says, tuple((min(room + 1, rooms - 1),) for room in range(rooms)))


def many_marks(count):
    """A ring whose house with marks has just so many rooms: the first one, and one for each way."""
    rooms = count - 1
    says = tuple((room,) for room in range(rooms))
    return (1, says, tuple(((room + 1) % rooms,) for room in range(rooms)))


class MadeTest(RefusalTest):
    def refused(self, letters, says, ways):
        self.assert_refused(BadHouse, made_says, letters, says, ways)

    def parts(self, letters, rooms):
        house = ring_says(letters, rooms, (0, 1, TOP))
        return [list(row) for row in house[1]], [list(row) for row in house[2]]

    def test_by_hand(self):
        told = made_says(2, [[4, 5], [6, 4]], [[1, 0], [1, 0]])
        self.assertEqual(told, TWO)
        self.assertEqual([type(part) for part in told], [int, tuple, tuple])
        self.assertEqual({type(row) for part in told[1:] for row in part}, {tuple})
        self.assertEqual(made_says(*TWO), TWO)
        self.assertEqual(made_says(2, [(4, 5), [6, 4]], ([1, 0], (1, 0))), TWO)

    def test_the_least_and_the_greatest(self):
        for letters in (1, 6):
            for rooms in (1, 40):
                house = ring_says(letters, rooms, (0, TOP))
                self.assertEqual(made_says(*self.as_lists(house)), house)

    def as_lists(self, house):
        return house[0], [list(row) for row in house[1]], [list(row) for row in house[2]]

    def test_counts_of_letters(self):
        for letters in (0, 7, -1, FAR):
            count = max(0, min(letters, 7))
            self.refused(letters, [[0] * count], [[0] * count])

    def test_counts_of_rooms(self):
        self.refused(1, [], [])
        self.refused(2, *self.parts(2, 41))

    def test_as_many_rows(self):
        for letters in (1, 3):
            says, ways = self.parts(letters, 4)
            self.refused(letters, says[:3], ways)
            self.refused(letters, says, ways[:3])
            self.refused(letters, says + [[0] * letters], ways)
            self.refused(letters, says, ways + [[0] * letters])
            self.refused(letters, [], ways)
            self.refused(letters, says, [])

    def test_just_as_many_numbers_in_each_row(self):
        for letters in (1, 2, 6):
            for place in (0, 1, 3):
                for part in (0, 1):
                    for count in (0, letters - 1, letters + 1):
                        both = self.parts(letters, 4)
                        both[part][place] = [0] * count
                        self.refused(letters, *both)

    def test_marks_below_and_above(self):
        for place in (0, 2, 3):
            for letter in (0, 1, 2):
                for wrong in (-1, TOP + 1, -FAR, FAR):
                    says, ways = self.parts(3, 4)
                    says[place][letter] = wrong
                    self.refused(3, says, ways)

    def test_ways_to_no_room(self):
        for rooms in (1, 4, 40):
            for place in (0, rooms // 2, rooms - 1):
                for letter in (0, 2):
                    for wrong in (-1, rooms, FAR, -FAR):
                        says, ways = self.parts(3, rooms)
                        ways[place][letter] = wrong
                        self.refused(3, says, ways)

    def test_lists_stay_and_are_not_kept(self):
        says, ways = self.parts(2, 3)
        kept = copy.deepcopy((says, ways))
        told = made_says(2, says, ways)
        self.assertEqual((says, ways), kept)
        before = copy.deepcopy(told)
        says[0][0] = 99
        says.pop()
        ways[1][1] = 0
        ways.clear()
        self.assertEqual(told, before)


class SaidTest(RefusalTest):
    def test_by_hand(self):
        self.assertEqual(said(TWO, ()), [])
        self.assertEqual(said(TWO, (1, 0, 0, 1, 1)), [5, 4, 6, 4, 5])
        self.assertEqual(last_said(TWO, (1, 0, 0)), 6)
        self.assertEqual(last_said(TWO, (1,)), 5)
        self.assertEqual(last_said(ONE_ROOM, (0,) * 600), 7)

    def test_walks(self):
        for house in many_says(101, 40, 6, 40, (0, 1, TOP)):
            chance = random.Random(102)
            for count in (1, 2, 7, 600, 650):
                word = random_word(chance, house[0], count)
                marks = [say_answer(house, word[:at + 1]) for at in range(count)]
                self.assertEqual(said(house, word), marks)
                self.assertEqual(last_said(house, word), marks[-1])

    def test_wrong_words(self):
        for house in (ONE_ROOM, TWO, ring_says(6, 40, (0, 1, 2))):
            for word in wrong_words(house[0]):
                self.assert_refused(BadWord, said, house, word)
                self.assert_refused(BadWord, last_said, house, word)

    def test_the_empty_word(self):
        for house in (ONE_ROOM, TWO):
            self.assertEqual(said(house, ()), [])
            self.assert_refused(BadWord, last_said, house, ())

    def test_lists_are_their_askers_own(self):
        self.assert_own_list(said, TWO, (0, 1, 0))
        self.assert_own_list(said, TWO, ())


def marks_by_hand(house, mark):
    """The first room apart, each other one a room and a mark, by walking whole levels of words."""
    found = {"first": ()}
    level = [("first", ())]
    while level:
        behind = []
        for pair, word in level:
            room = 0 if pair == "first" else pair[0]
            for letter in range(house[0]):
                goal = (house[2][room][letter], house[1][room][letter])
                behind.append((word + (letter,), goal))
        level = []
        for word, goal in sorted(behind):
            if goal not in found:
                found[goal] = word
                level.append((goal, word))
    order = list(found)
    ways = []
    for pair in order:
        room = 0 if pair == "first" else pair[0]
        goals = zip(house[2][room], house[1][room])
        ways.append(tuple(order.index(goal) for goal in goals))
    marks = (mark,) + tuple(pair[1] for pair in order[1:])
    return (house[0], marks, tuple(ways))


class MarksFromTest(RefusalTest):
    def test_by_hand(self):
        self.assertEqual(
            marks_from(TWO, 9),
            (2, (9, 4, 5, 6, 4), ((1, 2), (3, 4), (1, 2), (3, 4), (1, 2))),
        )

    def test_the_first_room_is_not_one_with_a_pair(self):
        self.assertEqual(marks_from(ONE_ROOM, 7), (1, (7, 7), ((1,), (1,))))
        self.assertEqual(marks_from(ONE_ROOM, 0), (1, (0, 7), ((1,), (1,))))

    def test_small_and_random_houses(self):
        houses = list(all_says(1, 2, (0, 1))) + list(all_says(2, 2, (0, 1)))
        for house in houses + many_says(103, 150, 4, 7, (0, 1, TOP)):
            for mark in (0, 1, TOP):
                due = marks_by_hand(house, mark)
                if len(due[1]) > 40:
                    self.assert_refused(BadHouse, marks_from, house, mark)
                else:
                    told = marks_from(house, mark)
                    self.assertEqual(told, due)
                    self.assertEqual(made(*told), told)
                    self.assertEqual(answer(told, ()), mark)
                    for word in words_by_hand(house[0], 4)[1:60]:
                        self.assertEqual(answer(told, word), say_answer(house, word))

    def test_rooms_that_no_word_reaches_are_not_there(self):
        house = (1, ((3,), (4,)), ((0,), (0,)))
        self.assertEqual(marks_from(house, 1), (1, (1, 3), ((1,), (1,))))

    def test_just_forty_rooms_and_one_more(self):
        house = many_marks(40)
        told = marks_from(house, 5)
        self.assertEqual(len(told[1]), 40)
        self.assertEqual(told, marks_by_hand(house, 5))
        self.assert_refused(BadHouse, marks_from, many_marks(41), 5)

    def test_many_marks_into_few_rooms(self):
        for rooms, count in ((7, 39), (8, 45)):
            # Letter 5 leads on, the others back to room 0; each way says a mark of its own.
            says = tuple(tuple(room * 6 + k for k in range(6)) for room in range(rooms))
            ways = tuple((0,) * 5 + (min(room + 1, rooms - 1),) for room in range(rooms))
            house = (6, says, ways)
            pairs = {(0, mark) for row in says for mark in row[:5]}
            pairs |= {(ways[room][5], says[room][5]) for room in range(rooms)}
            if len(pairs) + 1 > 40:
                self.assert_refused(BadHouse, marks_from, house, 0)
            else:
                self.assertEqual(marks_from(house, 0), marks_by_hand(house, 0))

    def test_two_hundred_and_more_rooms(self):
        says = tuple(tuple(room * 6 + k for k in range(6)) for room in range(40))
        ways = tuple(tuple((room * 7 + k + 1) % 40 for k in range(6)) for room in range(40))
        self.assert_refused(BadHouse, marks_from, (6, says, ways), 0)


class SaysFromTest(unittest.TestCase):
    def test_by_hand(self):
        house = (2, (5, 0, 9), ((1, 2), (2, 1), (0, 1)))
        self.assertEqual(
            says_from(house), (2, ((0, 9), (9, 0), (5, 0)), ((1, 2), (2, 1), (0, 1)))
        )

    def test_the_same_answers(self):
        houses = list(all_houses(2, 2, (0, 1))) + random_houses(104, 40, 6, 40, (0, 1, TOP))
        for house in houses:
            told = says_from(house)
            self.assertEqual(made_says(*told), told)
            self.assertEqual(told[2], house[2])
            for word in words_by_hand(house[0], 3)[1:]:
                self.assertEqual(say_answer(told, word), answer(house, word))

    def test_there_and_back(self):
        for house in many_says(105, 40, 3, 6):
            back = says_from(marks_from(house, 1))
            for word in words_by_hand(house[0], 4)[1:]:
                self.assertEqual(say_answer(back, word), say_answer(house, word))


class DifferenceTest(RefusalTest):
    def by_hand(self, house, other):
        """The least word, of those long enough for such small houses."""
        for word in words_by_hand(house[0], len(house[1]) + len(other[1]))[1:]:
            if say_answer(house, word) != say_answer(other, word):
                return word
        return None

    def test_all_small_houses(self):
        houses = list(all_says(1, 2, (0, 1)))
        for house, other in itertools.product(houses, houses):
            self.assertEqual(says_difference(house, other), self.by_hand(house, other))
        some = list(all_says(2, 2, (0, 1)))[::9]
        for house, other in itertools.product(some, some):
            self.assertEqual(says_difference(house, other), self.by_hand(house, other))

    def test_random_houses(self):
        chance = random.Random(106)
        for number in range(150):
            letters = chance.randint(1, 3)
            house = random_says(chance, letters, chance.randint(1, 3), (0, 0, 0, 1))
            other = random_says(chance, letters, chance.randint(1, 3), (0, 0, 0, 1))
            self.assertEqual(says_difference(house, other), self.by_hand(house, other))

    def test_the_empty_word_tells_none_apart(self):
        house = (2, ((0, 0), (0, 0)), ((1, 1), (0, 0)))
        self.assertIsNone(says_difference(house, (2, ((0, 0),), ((0, 0),))))

    def test_the_least_letter(self):
        one = (3, ((0, 0, 0),), ((0, 0, 0),))
        two = (3, ((0, 1, 1),), ((0, 0, 0),))
        self.assertEqual(says_difference(one, two), (1,))
        self.assertEqual(says_difference(two, one), (1,))

    def test_forty_rooms(self):
        self.assertEqual(says_difference(chain_says(40, 0), chain_says(40, 1)), (0,) * 40)
        self.assertIsNone(says_difference(chain_says(40, 0), chain_says(39, 0)))
        self.assertEqual(says_difference(chain_says(40, 1), chain_says(39, 1)), (0,) * 39)

    def test_unlike_counts_of_letters(self):
        for letters, others in ((1, 2), (6, 1), (5, 6)):
            one = ring_says(letters, 3, (0,))
            two = ring_says(others, 3, (0,))
            self.assert_refused(BadHouse, says_difference, one, two)


class LeastTest(unittest.TestCase):
    def check(self, house):
        told = says_least(house)
        self.assertEqual(made_says(*told), told)
        self.assertNotIn((0, 0), pairs_told_apart(house, told))
        rooms = range(len(told[1]))
        self.assertEqual(reached_by_hand(told), set(rooms))
        apart = pairs_told_apart(told, told)
        for one, two in itertools.combinations(rooms, 2):
            self.assertIn((one, two), apart)
        words = least_words_in(told)
        self.assertEqual(list(words), list(rooms))
        return told

    def test_small_and_random_houses(self):
        houses = list(all_says(1, 2, (0, 1))) + list(all_says(2, 2, (0, 1)))
        for house in houses + many_says(107, 80, 6, 40, (0, 0, 0, TOP)):
            told = self.check(house)
            self.assertEqual(says_least(told), told)
            for word in words_by_hand(house[0], 3)[1:]:
                self.assertEqual(say_answer(told, word), say_answer(house, word))

    def test_two_rooms_that_no_word_tells_apart(self):
        house = (1, ((4,), (4,), (4,)), ((1,), (2,), (1,)))
        self.assertEqual(says_least(house), (1, ((4,),), ((0,),)))

    def test_rooms_that_no_word_reaches(self):
        house = (1, ((4,), (5,), (6,)), ((2,), (1,), (0,)))
        self.assertEqual(says_least(house), (1, ((4,), (6,)), ((1,), (0,))))

    def test_forty_rooms(self):
        self.assertEqual(says_least(chain_says(40, 1)), chain_says(40, 1))
        self.assertEqual(len(says_least(chain_says(40, 0))[1]), 1)

    def test_the_same_for_houses_that_answer_alike(self):
        chance = random.Random(108)
        for number in range(40):
            house = random_says(chance, 2, 5)
            order = [0] + chance.sample(range(1, 5), 4)
            says = [None] * 5
            ways = [None] * 5
            for room in range(5):
                says[order[room]] = house[1][room]
                ways[order[room]] = tuple(order[goal] for goal in house[2][room])
            self.assertEqual(says_least((2, tuple(says), tuple(ways))), says_least(house))


if __name__ == "__main__":
    unittest.main()
