"""[0.1], [0.2], [1.2], [1.3], [1.4] and the interface's guessroom/house.py."""

import copy
import itertools
import unittest

from guessroom.errors import BadHouse, BadWord
from guessroom.house import made, mark_behind, marks_along, room_behind, trail, turned
from guessroom.words import words_to

FAR = 10 ** 30
TOP = 1000000000
ONE_ROOM = (1, (7,), ((0,),))
THREE = (2, (5, 0, 9), ((1, 2), (2, 1), (0, 1)))


def ring(letters, rooms):
    """A house in which letter k leads k + 1 rooms on, and all marks are unlike."""
    marks = [room * 3 + 1 for room in range(rooms)]
    ways = [[(room + k + 1) % rooms for k in range(letters)] for room in range(rooms)]
    return marks, ways


def with_item(row, place, value):
    other = list(row)
    other[place] = value
    return other


class MadeTest(unittest.TestCase):
    def refused(self, letters, marks, ways):
        with self.assertRaises(BadHouse):
            made(letters, marks, ways)

    def test_one_room(self):
        self.assertEqual(made(1, [7], [[0]]), ONE_ROOM)
        self.assertEqual(made(6, [0], [[0] * 6]), (6, (0,), ((0,) * 6,)))

    def test_forty_rooms(self):
        for letters in (1, 2, 6):
            marks, ways = ring(letters, 40)
            told = made(letters, marks, ways)
            self.assertEqual(told, (letters, tuple(marks), tuple(tuple(row) for row in ways)))

    def test_lists_and_tuples(self):
        marks = [5, 0, 9]
        ways = [[1, 2], [2, 1], [0, 1]]
        mixed = [(1, 2), [2, 1], (0, 1)]
        for some_marks in (marks, tuple(marks)):
            for some_ways in (ways, tuple(ways), mixed, tuple(mixed), THREE[2], list(THREE[2])):
                told = made(2, some_marks, some_ways)
                self.assertEqual(told, THREE)
                self.assertEqual(
                    [type(part) for part in (told, told[1], told[2]) + told[2]], [tuple] * 6
                )

    def test_least_and_greatest_mark(self):
        self.assertEqual(made(1, [0, TOP], [[1], [0]]), (1, (0, TOP), ((1,), (0,))))
        self.assertEqual(made(1, [TOP, 0], [[1], [0]]), (1, (TOP, 0), ((1,), (0,))))

    def test_counts_of_letters(self):
        for letters in (-FAR, -1, 0, 7, 8, FAR):
            width = min(max(letters, 0), 10)
            self.refused(letters, [0], [[0] * width])
            self.refused(letters, [0, 0], [[1] * width, [0] * width])

    def test_counts_of_rooms(self):
        self.refused(1, [], [])
        self.refused(1, (), ())
        for rooms in (41, 42, 100):
            self.refused(1, [0] * rooms, [[0]] * rooms)
            self.refused(6, [0] * rooms, [[0] * 6] * rooms)

    def test_marks_out_of_bounds(self):
        for rooms in (1, 3, 40):
            marks, ways = ring(2, rooms)
            for place in (0, rooms // 2, -1):
                for wrong in (-1, TOP + 1, -FAR, FAR):
                    self.refused(2, with_item(marks, place, wrong), ways)

    def test_as_many_rows_as_marks(self):
        for rooms in (2, 3, 39):
            marks, ways = ring(2, rooms)
            self.refused(2, marks, ways[:-1])
            self.refused(2, marks, ways[1:])
            self.refused(2, marks, [])
            self.refused(2, marks, ways + [[0, 0]])
            self.refused(2, marks[:-1], ways)
            self.refused(2, marks + [0], ways)

    def test_rows_of_just_as_many_numbers(self):
        for letters in (1, 2, 5):
            marks, ways = ring(letters, 4)
            for place in (0, 1, -1):
                for row in ([], [0] * (letters - 1), [0] * (letters + 1)):
                    self.refused(letters, marks, with_item(ways, place, row))
            self.refused(letters + 1, marks, ways)

    def test_ways_to_no_room(self):
        for rooms in (1, 3, 40):
            marks, ways = ring(3, rooms)
            for place in (0, rooms // 2, -1):
                for letter in (0, 1, 2):
                    for wrong in (-1, -rooms, rooms, rooms + 1, -FAR, FAR):
                        row = with_item(ways[place], letter, wrong)
                        self.refused(3, marks, with_item(ways, place, row))

    def test_the_last_room_is_a_room(self):
        self.assertEqual(made(1, [0] * 40, [[39]] * 40)[2], ((39,),) * 40)

    def test_lists_stay_as_they_were(self):
        marks, ways = ring(2, 5)
        kept = copy.deepcopy((marks, ways))
        made(2, marks, ways)
        self.assertEqual((marks, ways), kept)
        self.refused(3, marks, ways)
        self.assertEqual((marks, ways), kept)

    def test_lists_are_not_kept(self):
        marks, ways = ring(2, 3)
        told = made(2, marks, ways)
        kept = copy.deepcopy(told)
        marks[0] = 99
        ways[0][0] = 0
        ways[1] = [0, 0]
        ways.append([0, 0])
        self.assertEqual(told, kept)


class WalkTest(unittest.TestCase):
    def test_the_empty_word(self):
        for house in (ONE_ROOM, THREE, made(6, *ring(6, 40))):
            self.assertEqual(trail(house, ()), [0])
            self.assertEqual(room_behind(house, ()), 0)
            self.assertEqual(mark_behind(house, ()), house[1][0])
            self.assertEqual(marks_along(house, ()), [house[1][0]])

    def test_an_ordinary_word(self):
        word = (0, 0, 1, 1, 0)
        self.assertEqual(trail(THREE, word), [0, 1, 2, 1, 1, 2])
        self.assertEqual(room_behind(THREE, word), 2)
        self.assertEqual(mark_behind(THREE, word), 9)
        self.assertEqual(marks_along(THREE, word), [5, 0, 9, 0, 0, 9])

    def test_each_letter_leads_its_own_way(self):
        house = made(6, list(range(7)), [list(range(1, 7))] + [[0] * 6] * 6)
        for letter in range(6):
            self.assertEqual(trail(house, (letter,)), [0, letter + 1])
            self.assertEqual(mark_behind(house, (letter,)), letter + 1)

    def test_long_words(self):
        for letters, rooms in ((1, 40), (2, 39), (6, 40)):
            house = made(letters, *ring(letters, rooms))
            for count in (400, 600, 700):
                word = tuple((i * i) % letters for i in range(count))
                rooms_by_hand = [0]
                for letter in word:
                    rooms_by_hand.append((rooms_by_hand[-1] + letter + 1) % rooms)
                self.assertEqual(trail(house, word), rooms_by_hand)
                self.assertEqual(room_behind(house, word), rooms_by_hand[-1])
                self.assertEqual(mark_behind(house, word), rooms_by_hand[-1] * 3 + 1)
                self.assertEqual(
                    marks_along(house, word), [room * 3 + 1 for room in rooms_by_hand]
                )

    def test_one_room_is_never_left(self):
        self.assertEqual(trail(ONE_ROOM, (0,) * 600), [0] * 601)
        self.assertEqual(marks_along(ONE_ROOM, (0,) * 600), [7] * 601)

    def test_numbers_that_are_no_letters(self):
        for house in (ONE_ROOM, THREE, made(6, *ring(6, 40))):
            letters = house[0]
            for wrong in (-1, -letters, letters, letters + 1, -FAR, FAR):
                for word in (
                    (wrong,), (wrong, 0, 0), (0, wrong, 0), (0, 0, wrong),
                    (0,) * 400 + (wrong,), (wrong,) + (0,) * 400,
                ):
                    for function in (trail, room_behind, mark_behind, marks_along):
                        with self.assertRaises(BadWord):
                            function(house, word)

    def test_lists_are_their_askers_own(self):
        for function in (trail, marks_along):
            told = function(THREE, (0, 1))
            kept = list(told)
            told.append(99)
            told[0] = 98
            self.assertEqual(function(THREE, (0, 1)), kept)


class TurnedTest(unittest.TestCase):
    def orders(self, rooms):
        return [[0] + list(rest) for rest in itertools.permutations(range(1, rooms))]

    def test_by_hand(self):
        self.assertEqual(
            turned((1, (4, 5, 6), ((1,), (2,), (2,))), [0, 2, 1]),
            (1, (4, 6, 5), ((2,), (1,), (1,))),
        )

    def test_an_order_that_is_not_its_own_way_back(self):
        house = (1, (10, 11, 12, 13), ((1,), (2,), (3,), (1,)))
        self.assertEqual(
            turned(house, [0, 2, 3, 1]), (1, (10, 13, 11, 12), ((2,), (2,), (3,), (1,)))
        )

    def test_the_same_numbers_change_nothing(self):
        for house in (ONE_ROOM, THREE):
            self.assertEqual(turned(house, list(range(len(house[1])))), house)

    def test_there_and_back(self):
        for house in (ONE_ROOM, THREE, made(3, *ring(3, 5)), made(6, *ring(6, 4))):
            rooms = len(house[1])
            for order in self.orders(rooms):
                back = [order.index(room) for room in range(rooms)]
                self.assertEqual(turned(turned(house, order), back), house)

    def test_forty_rooms_there_and_back(self):
        house = made(6, *ring(6, 40))
        order = [0] + [room * 7 % 39 + 1 for room in range(39)]
        back = [order.index(room) for room in range(40)]
        self.assertNotEqual(turned(house, order), house)
        self.assertEqual(turned(turned(house, order), back), house)

    def test_answers_and_trails(self):
        house = made(2, [3, 1, 4, 1, 5], [[1, 2], [3, 4], [0, 2], [4, 3], [2, 0]])
        for order in self.orders(5):
            other = turned(house, order)
            self.assertEqual(other, made(*other))
            for word in words_to(2, 5):
                self.assertEqual(mark_behind(other, word), mark_behind(house, word))
                self.assertEqual(trail(other, word), [order[room] for room in trail(house, word)])

    def test_rows_that_are_no_order(self):
        wrong = (
            [], [0], [0, 1], [0, 1, 2, 3], [1, 0, 2], [2, 1, 0], [1, 2, 0],
            [0, 1, 1], [0, 2, 2], [0, 0, 1], [0, 0, 2], [0, 0, 0],
            [0, 1, 3], [0, 3, 1], [0, 1, -1], [0, -1, 1], [0, -1, -2], [-3, 1, 2],
            [0, 1, FAR], [0, FAR, 1], [0, 1, -FAR], [0, 1, 2, 2], [0, 1, 2, 0],
        )
        for order in wrong:
            with self.assertRaises(BadHouse, msg=order):
                turned(THREE, order)

    def test_rows_that_are_no_order_of_one_room(self):
        for order in ([], [1], [-1], [0, 0], [0, 1]):
            with self.assertRaises(BadHouse, msg=order):
                turned(ONE_ROOM, order)

    def test_the_order_stays_and_is_not_kept(self):
        order = [0, 2, 1]
        told = turned(THREE, order)
        self.assertEqual(order, [0, 2, 1])
        kept = copy.deepcopy(told)
        order[1] = 0
        order.append(5)
        self.assertEqual(told, kept)


if __name__ == "__main__":
    unittest.main()
