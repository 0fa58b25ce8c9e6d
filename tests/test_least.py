"""[0.2], [2.5] and the interface's guessroom/least.py."""

import itertools
import random
import unittest

from guessroom.errors import BadHouse
from guessroom.house import made, turned
from guessroom.least import alike, homes, least
from refusals import RefusalTest
from samples import (
    TOP, all_houses, chain, late_pair, least_words_in, pairs_told_apart, random_house,
    random_houses, reached_by_hand, ring,
)

ONE_ROOM = (1, (7,), ((0,),))
# Room 3 is like room 1 and room 4 like room 0; rooms 5 and 6 are not reached.
DOUBLED = (
    2,
    (0, 1, 2, 1, 0, 0, 9),
    ((1, 2), (3, 0), (2, 4), (1, 4), (3, 2), (1, 2), (6, 0)),
)


class LeastTest(RefusalTest):
    def check(self, house):
        """What [2.5] tells of the least house, and of the homes."""
        told = least(house)
        self.assertEqual(made(*told), told)
        self.assertIs(type(told), tuple)
        self.assertEqual(told[0], house[0])
        self.assertNotIn((0, 0), pairs_told_apart(house, told))
        rooms = range(len(told[1]))
        self.assertEqual(reached_by_hand(told), set(rooms))
        self.assertEqual(list(least_words_in(told)), list(rooms))
        unlike = pairs_told_apart(told, told)
        for one, other in itertools.product(rooms, repeat=2):
            self.assertEqual((one, other) in unlike, one != other)
        self.check_homes(house, told)
        return told

    def check_homes(self, house, told):
        found = homes(house)
        there = reached_by_hand(house)
        self.assertEqual(len(found), len(house[1]))
        self.assertEqual(found[0], 0)
        for room, home in enumerate(found):
            if room not in there:
                self.assertIsNone(home)
                continue
            self.assertEqual(told[1][home], house[1][room])
            for letter, goal in enumerate(house[2][room]):
                self.assertEqual(told[2][home][letter], found[goal])
        self.assertEqual({home for home in found if home is not None}, set(range(len(told[1]))))

    def test_by_hand(self):
        self.assertEqual(self.check(DOUBLED), (2, (0, 1, 2), ((1, 2), (1, 0), (2, 0))))
        self.assertEqual(homes(DOUBLED), [0, 1, 2, 1, 0, None, None])

    def test_one_room(self):
        self.assertEqual(self.check(ONE_ROOM), ONE_ROOM)
        self.assertEqual(homes(ONE_ROOM), [0])
        house = (6, (TOP,), ((0,) * 6,))
        self.assertEqual(self.check(house), house)

    def test_the_order_of_the_ways_in(self):
        house = (2, (0, 1, 2, 3), ((3, 2), (0, 0), (0, 0), (3, 1)))
        self.assertEqual(self.check(house), (2, (0, 3, 2, 1), ((1, 2), (1, 3), (0, 0), (0, 0))))
        self.assertEqual(homes(house), [0, 3, 2, 1])

    def test_a_room_that_is_like_another_but_not_reached_has_no_home(self):
        house = (1, (0, 1, 0, 1), ((1,), (0,), (3,), (2,)))
        self.assertEqual(self.check(house), (1, (0, 1), ((1,), (0,))))
        self.assertEqual(homes(house), [0, 1, None, None])

    def test_a_room_numbered_ahead_but_not_reached_takes_no_number(self):
        house = (1, (0, 1, 2), ((2,), (0,), (2,)))
        self.assertEqual(self.check(house), (1, (0, 2), ((1,), (1,))))
        self.assertEqual(homes(house), [0, None, 1])

    def test_marks_all_alike(self):
        for letters in (1, 2, 6):
            house = ring(letters, 40, (TOP,) * 40)
            self.assertEqual(self.check(house), (letters, (TOP,), ((0,) * letters,)))
            self.assertEqual(homes(house), [0] * 40)

    def test_forty_rooms_none_like_another(self):
        for house in (chain(1, 40), chain(6, 40), ring(6, 40, range(40))):
            self.assertEqual(self.check(house), house)
            order = [0] + [room * 7 % 39 + 1 for room in range(39)]
            other = turned(house, order)
            self.assertNotEqual(other, house)
            self.assertEqual(self.check(other), house)
            self.assertEqual([homes(other)[order[room]] for room in range(40)], list(range(40)))

    def test_forty_rooms_some_like_others(self):
        house = ring(1, 40, (0, 1, TOP, 5) * 10)
        self.assertEqual(self.check(house), ring(1, 4, (0, 1, TOP, 5)))
        self.assertEqual(homes(house), [0, 1, 2, 3] * 10)

    def test_one_mark_alone_unlike(self):
        for place in (0, 1, 20, 39):
            marks = [0] * 40
            marks[place] = 1
            self.assertEqual(len(self.check(ring(1, 40, marks))[1]), 40)
            rooms = len(self.check(chain(1, 40, marks))[1])
            self.assertEqual(rooms, min(place + 2, 40))

    def test_all_small_houses(self):
        for letters, rooms in ((1, 1), (1, 2), (1, 3), (2, 2), (3, 2)):
            for house in all_houses(letters, rooms, (0, 1)):
                self.check(house)

    def test_greater_houses(self):
        for house in random_houses(11, 120, most_letters=3, most_rooms=10):
            self.check(house)
        chance = random.Random(12)
        for letters in (1, 2, 6):
            self.check(random_house(chance, letters, 40))

    def test_houses_are_alike_just_where_their_least_houses_are_equal(self):
        houses = [
            house for letters, rooms in ((1, 2), (1, 3), (2, 1), (2, 2))
            for house in all_houses(letters, rooms, (0, 1))
        ]
        for house, other in itertools.product(houses[::3], houses[::5]):
            if house[0] == other[0]:
                apart = (0, 0) in pairs_told_apart(house, other)
                self.assertIs(least(house) == least(other), not apart)
                self.assertIs(alike(house, other), not apart)

    def test_the_least_house_of_a_least_house(self):
        for house in random_houses(13, 40):
            self.assertEqual(least(least(house)), least(house))

    def test_lists_are_their_askers_own(self):
        self.assert_own_list(homes, DOUBLED)


class AlikeTest(RefusalTest):
    def test_by_hand(self):
        self.assertIs(alike(DOUBLED, (2, (0, 1, 2), ((1, 2), (1, 0), (2, 0)))), True)
        self.assertIs(alike(DOUBLED, (2, (0, 1, 2), ((1, 2), (1, 0), (2, 1)))), False)
        self.assertIs(alike(DOUBLED, (2, (0, 1, 3), ((1, 2), (1, 0), (2, 0)))), False)
        self.assertIs(alike(ONE_ROOM, (1, (7, 7), ((1,), (1,)))), True)
        self.assertIs(alike(ONE_ROOM, (1, (8,), ((0,),))), False)

    def test_told_apart_by_long_words_alone(self):
        for rooms, others in ((1, 40), (40, 1), (39, 40), (40, 40)):
            house, other = late_pair(2, rooms, others)
            self.assertIs(alike(house, other), False)
            self.assertIs(alike(other, house), False)

    def test_forty_rooms(self):
        house = ring(6, 40, range(40))
        other = turned(house, [0] + list(range(39, 0, -1)))
        self.assertIs(alike(house, other), True)
        self.assertIs(alike(house, ring(6, 40, list(range(39)) + [TOP])), False)

    def test_other_counts_of_letters(self):
        for one, two in itertools.permutations(range(1, 7), 2):
            house = (one, (0,), ((0,) * one,))
            for other in ((two, (0,), ((0,) * two,)), ring(two, 40, range(40))):
                self.assert_refused(BadHouse, alike, house, other)
                self.assert_refused(BadHouse, alike, other, house)


if __name__ == "__main__":
    unittest.main()
