"""[0.2], [2.1] and the interface's guessroom/reach.py."""

import itertools
import unittest

from guessroom.house import made, room_behind
from guessroom.reach import reached, ways_in
from guessroom.words import less, place_of, words_to


def all_houses(letters, rooms):
    rows = list(itertools.product(range(rooms), repeat=letters))
    for ways in itertools.product(rows, repeat=rooms):
        yield made(letters, [0] * rooms, ways)


def ways_in_by_hand(house):
    """The least words, looked for in all words that may be least ones, in their order."""
    rooms = len(house[1])
    found = {}
    for word in words_to(house[0], rooms - 1):
        found.setdefault(room_behind(house, word), word)
    return [found.get(room) for room in range(rooms)]


class ReachTest(unittest.TestCase):
    def told(self, house, ways, rooms):
        self.assertEqual(ways_in(house), ways)
        self.assertEqual(reached(house), rooms)

    def test_one_room(self):
        self.told(made(1, [7], [[0]]), [()], [0])
        self.told(made(6, [7], [[0] * 6]), [()], [0])

    def test_rooms_that_are_not_reached(self):
        house = made(2, [0] * 4, [[0, 2], [0, 3], [2, 0], [1, 1]])
        self.told(house, [(), None, (1,), None], [0, 2])
        self.told(made(1, [0] * 40, [[0]] * 40), [()] + [None] * 39, [0])

    def test_a_room_with_ways_to_itself_alone_is_not_reached(self):
        self.told(made(1, [0, 1], [[0], [1]]), [(), None], [0])

    def test_ways_back_into_room_nought(self):
        house = made(2, [0] * 3, [[0, 1], [0, 2], [0, 0]])
        self.told(house, [(), (1,), (1, 1)], [0, 1, 2])

    def test_the_least_of_several_words(self):
        # Room 3 lies behind (1,), (0, 0) and (0, 1); room 2 behind (0, 2) and (2, 0).
        house = made(3, [0] * 5, [[1, 3, 4], [3, 3, 2], [0, 0, 0], [3, 3, 3], [2, 4, 4]])
        self.told(house, [(), (0,), (0, 2), (1,), (2,)], [0, 1, 3, 4, 2])

    def test_two_letters_to_the_same_room(self):
        self.told(made(2, [0, 0], [[1, 1], [0, 0]]), [(), (0,)], [0, 1])

    def test_the_order_is_that_of_the_words_and_not_of_the_numbers(self):
        house = made(1, [0] * 4, [[3], [0], [1], [2]])
        self.told(house, [(), (0, 0, 0), (0, 0), (0,)], [0, 3, 2, 1])
        house = made(2, [0] * 5, [[4, 3], [0, 0], [0, 0], [1, 0], [0, 2]])
        self.told(house, [(), (1, 0), (0, 1), (1,), (0,)], [0, 4, 3, 2, 1])

    def test_forty_rooms_one_behind_the_other(self):
        rooms = [[room, min(room + 1, 39)] for room in range(40)]
        house = made(2, [0] * 40, rooms)
        self.told(house, [(1,) * room for room in range(40)], list(range(40)))

    def test_forty_rooms_as_a_tree(self):
        ways = [[(room * 6 + letter + 1) % 40 for letter in range(6)] for room in range(40)]
        house = made(6, [0] * 40, ways)
        self.assertEqual(reached(house), list(range(40)))
        self.assertEqual([place_of(6, word) for word in ways_in(house)], list(range(40)))

    def test_all_small_houses(self):
        for letters, rooms in ((1, 2), (1, 3), (1, 4), (2, 2), (2, 3), (3, 2)):
            for house in all_houses(letters, rooms):
                ways = ways_in_by_hand(house)
                self.assertEqual(ways_in(house), ways)
                there = [room for room in range(rooms) if ways[room] is not None]
                there.sort(key=lambda room: place_of(letters, ways[room]))
                self.assertEqual(reached(house), there)

    def test_the_words_of_the_reached_rooms_stand_in_their_order(self):
        for house in all_houses(2, 3):
            ways = ways_in(house)
            words = [ways[room] for room in reached(house)]
            self.assertEqual(words[0], ())
            for word, behind in zip(words, words[1:]):
                self.assertTrue(less(word, behind))

    def test_lists_are_their_askers_own(self):
        house = made(1, [0, 0], [[1], [0]])
        for function in (ways_in, reached):
            told = function(house)
            kept = list(told)
            told.append(5)
            told[0] = None
            self.assertEqual(function(house), kept)


if __name__ == "__main__":
    unittest.main()
