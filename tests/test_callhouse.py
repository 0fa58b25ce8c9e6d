"""[0.2], [0.5], [9.4], [9.6] to [9.8] and the interface's guessroom/callhouse.py."""

import copy
import itertools
import random
import unittest

from guessroom.callhouse import made_works, shortest, takes, uses_of, works_difference
from guessroom.errors import BadHouse, BadWord
from refusals import RefusalTest
from rows import (
    all_rows, everything, helpers_of_use, helpers_with_rows, many_works, nothing_taken,
    parts_by_hand, random_row, random_works, shortest_by_hand, takes_by_hand, told_apart,
)
from samples import FAR, TOP, all_houses, random_house

# Of one plain letter: helper 0 takes a row with just one call of helper 1; helper 1 takes rows
# of an even count of letters and calls.
PAIR = (1, ((3, (0, 5, 0), ((0, 2, 1), (1, 2, 2), (2, 2, 2))), (3, (TOP, 0), ((1, 1, 1), (0, 0, 0)))))
# Helper 0 calls helper 1, which calls helper 2, which takes three plain letters; each goes three
# rooms far, so that the shortest rows are long.
DEEP = (1, tuple(
    (4, (0, 0, 0, 1), tuple(
        tuple(min(room + 1, 3) if letter == way else room for letter in range(4))
        for room in range(4)
    )) for way in (2, 3, 0)
))


class MadeTest(RefusalTest):
    def refused(self, plain, houses):
        self.assert_refused(BadHouse, made_works, plain, houses)

    def house(self, letters, rooms=1):
        return (letters, (1,) * rooms, ((0,) * letters,) * rooms)

    def test_all_counts(self):
        for plain in range(-1, 7):
            for helpers in range(0, 6):
                letters = min(plain + helpers, 6)
                houses = [self.house(max(letters, 1))] * helpers
                if 1 <= plain <= 4 and 1 <= helpers <= 3 and plain + helpers <= 6:
                    told = made_works(plain, houses)
                    self.assertEqual(told, (plain, tuple(houses)))
                    self.assertIs(type(told[1]), tuple)
                    self.assertEqual(made_works(plain, tuple(houses)), told)
                else:
                    self.refused(plain, houses)
        for plain in (FAR, -FAR):
            self.refused(plain, [self.house(2)])
        self.refused(2, [])
        self.refused(2, ())

    def test_counts_of_letters(self):
        for plain, helpers in ((1, 1), (2, 2), (3, 3), (4, 2)):
            for place in range(helpers):
                for letters in range(1, 7):
                    houses = [self.house(plain + helpers)] * helpers
                    houses[place] = self.house(letters)
                    if letters != plain + helpers:
                        self.refused(plain, houses)

    def test_counts_of_rooms(self):
        for place in (0, 1):
            for rooms in (1, 4, 5, 40):
                houses = [self.house(4), self.house(4)]
                houses[place] = self.house(4, rooms)
                if rooms <= 4:
                    self.assertEqual(made_works(2, houses), (2, tuple(houses)))
                else:
                    self.refused(2, houses)

    def test_lists_stay_and_are_not_kept(self):
        houses = [self.house(3), self.house(3, 2)]
        kept = list(houses)
        told = made_works(1, houses)
        self.assertEqual(houses, kept)
        houses.clear()
        self.assertEqual(told, (1, tuple(kept)))


class TakesTest(RefusalTest):
    def test_by_hand(self):
        for row, due in (
            ((), False), ((0,), False), ((2, 3), True), ((0, 2, 3, 0), True), ((0, 2, 3), True),
            ((2, 0, 3), False), ((2, 0, 0, 3), True), ((2, 0, 1, 2, 3, 3, 3), True),
            ((2, 0, 1, 3, 3), False), ((1, 2, 3, 3), False), ((2, 3, 2, 3), False),
        ):
            self.assertIs(takes(PAIR, row), takes_by_hand(PAIR, row), row)
            self.assertIs(takes(PAIR, row), due, row)

    def test_everything_and_nothing(self):
        for plain, helpers in ((1, 1), (4, 2), (3, 3)):
            for row in all_rows(plain, helpers, 3):
                self.assertIs(takes(everything(plain, helpers), row), True)
                self.assertIs(takes(nothing_taken(plain, helpers), row), False)

    def test_all_short_rows(self):
        for works in many_works(311, 25, 2, 2, 4, (0, 1, TOP)):
            for row in all_rows(works[0], len(works[1]), 5):
                self.assertIs(takes(works, row), takes_by_hand(works, row))

    def test_chance_rows(self):
        chance = random.Random(312)
        taken = 0
        for works in many_works(313, 60, 3, 3, 4, (0, 1, 1, 1, 1, TOP)):
            for count in (3, 8, 20, 200):
                row = random_row(chance, works[0], len(works[1]), count)
                self.assertIs(takes(works, row), takes_by_hand(works, row))
                taken += takes(works, row)
        self.assertGreater(taken, 20)

    def test_each_call_counts(self):
        # Helper 1 takes nothing: no row with a call of it is taken, however deep it stands.
        works = (1, ((3, (1,), ((0, 0, 0),)), (3, (0,), ((0, 0, 0),))))
        for depth in (0, 1, 300):
            row = (1,) * depth + (3,) * depth
            self.assertIs(takes(works, row), True)
            self.assertIs(takes(works, row[:depth] + (2, 3) + row[depth:]), False)
            self.assertIs(takes(works, (2, 3) + row), False)

    def test_long_and_deep_rows(self):
        works = everything(2, 1)
        self.assertIs(takes(works, (2, 3) * 2000), True)
        self.assertIs(takes(works, (2,) * 300 + (3,) * 300), True)

    def test_rows_that_are_not_nested(self):
        for works in (PAIR, everything(1, 2), nothing_taken(1, 2)):
            for row in ((3,), (1,), (2, 3, 3), (4,), (-1,), (0, 1, 2, 3), (1, 4, 3)):
                self.assert_refused(BadWord, takes, works, row)


class ShortestTest(unittest.TestCase):
    def test_by_hand(self):
        self.assertEqual(shortest(PAIR), [(2, 3), ()])
        inner = (3, 0, 0, 0, 4)
        self.assertEqual(
            shortest(DEEP), [(2,) + inner * 3 + (4, 2) + inner * 3 + (4, 2) + inner * 3 + (4,),
                             inner * 3, (0, 0, 0)]
        )
        self.assertEqual(shortest(everything(1, 3)), [()] * 3)
        self.assertEqual(shortest(nothing_taken(4, 2)), [None] * 2)

    def test_against_all_short_rows(self):
        checked = 0
        for works in many_works(321, 250, 2, 2, 3) + many_works(322, 60, 1, 3, 2):
            self.assertEqual([row is not None for row in shortest(works)], helpers_with_rows(works))
            most = 8 if len(works[1]) + works[0] < 4 else 6
            due = shortest_by_hand(works, most)
            for told, row in zip(shortest(works), due):
                if row is not None or (told is not None and len(told) <= most):
                    self.assertEqual(told, row)
                    checked += 1
        self.assertGreater(checked, 200)

    def test_the_least_of_those_with_as_many_signs(self):
        # Rows (0, 1) and (1, 0) and a call without anything within: the least is told.
        house = (3, (0, 0, 1), ((1, 1, 2), (2, 2, 1), (2, 2, 2)))
        self.assertEqual(shortest((2, (house,))), [(0, 0)])
        house = (3, (0, 1, 0), ((2, 2, 1), (1, 1, 1), (2, 1, 2)))
        self.assertEqual(shortest((2, (house,))), [(0, 1)])

    def test_a_helper_without_a_row(self):
        # Helper 1 takes only rows with a call of itself.
        works = (1, ((3, (1,), ((0, 0, 0),)), (3, (0, 1), ((0, 0, 1), (1, 1, 1)))))
        self.assertEqual(shortest(works), [(), None])

    def test_rows_are_taken(self):
        for works in many_works(323, 150, 4, 2, 4, (0, 0, TOP)) + many_works(324, 100, 3, 3):
            plain = works[0]
            self.assertEqual([row is not None for row in shortest(works)], helpers_with_rows(works))
            for helper, row in enumerate(shortest(works)):
                if row is not None:
                    pieces = parts_by_hand(plain, len(works[1]), row)[:-1]
                    self.assertTrue(takes_by_hand(works, row) or helper > 0)
                    own = parts_by_hand(plain, len(works[1]), row)[-1][1]
                    for piece in pieces + [(helper, own)]:
                        self.assertTrue(takes_piece(works, piece))

    def test_lists_are_their_askers_own(self):
        told = shortest(PAIR)
        told.clear()
        self.assertEqual(shortest(PAIR), [(2, 3), ()])


def takes_piece(works, piece):
    room = 0
    house = works[1][piece[0]]
    for letter in piece[1]:
        room = house[2][room][letter]
    return house[1][room] != 0


class UsesTest(unittest.TestCase):
    def check(self, works):
        plain, houses = works
        helpers = len(houses)
        uses = uses_of(works)
        self.assertIs(type(uses), list)
        self.assertEqual([use is not None for use in uses], helpers_of_use(works))
        for j, use in enumerate(uses):
            if use is None:
                continue
            self.assertEqual((type(use), len(use)), (tuple, 3))
            self.assertEqual([type(row) for row in use], [tuple] * 3)
            ahead, within, behind = use
            self.assertIsNotNone(parts_by_hand(plain, helpers, within))
            row = ahead + (plain + j,) + within + (plain + helpers,) + behind
            if j == 0:
                self.assertEqual((ahead, behind), ((), ()))
                row = within
            self.assertTrue(takes_by_hand(works, row))
            self.assertLessEqual(len(row), 1000)
        return uses

    def test_by_hand(self):
        self.assertEqual(self.check(PAIR), [((), (2, 3), ()), ((), (), ())])
        self.check(DEEP)
        self.assertEqual(self.check(nothing_taken(2, 3)), [None] * 3)

    def test_chance_works(self):
        for works in many_works(331, 250, 4, 2, 4, (0, 0, TOP)) + many_works(332, 250, 3, 3):
            self.check(works)

    def test_works_that_take_little(self):
        found = {}
        for works in many_works(333, 400, 1, 3, 4, (0, 0, 0, 1)):
            uses = self.check(works)
            kind = tuple(use is None for use in uses)
            found[kind] = found.get(kind, 0) + 1
        self.assertGreater(len(found), 8)

    def test_a_works_that_takes_no_row(self):
        # Helper 1 takes all rows, but helper 0 none.
        works = (1, ((3, (0,), ((0, 0, 0),)), (3, (1,), ((0, 0, 0),))))
        self.assertEqual(self.check(works), [None, None])

    def test_a_helper_that_is_of_no_use(self):
        # Helper 1 has a shortest row, but no row with a call of it is taken.
        works = (1, ((3, (1, 0), ((0, 0, 1), (1, 1, 1))), (3, (1,), ((0, 0, 0),))))
        self.assertEqual(shortest(works), [(), ()])
        self.assertEqual(self.check(works), [((), (), ()), None])

    def test_a_helper_that_only_another_one_calls(self):
        # Each house takes the words of just one letter, which calls the next helper.
        works = (1, tuple(
            (4, (0, 1, 0), (tuple(1 if letter == way else 2 for letter in range(4)), (2,) * 4, (2,) * 4))
            for way in (2, 3, 0)
        ))
        self.assertEqual(
            self.check(works),
            [((), (2, 3, 0, 4, 4), ()), ((), (3, 0, 4), ()), ((2,), (0,), (4,))],
        )

    def test_all_small_houses(self):
        houses = list(all_houses(2, 2, (0, 1)))
        for house in houses:
            self.check((1, (house,)))


class DifferenceTest(RefusalTest):
    def check(self, works, other):
        told = works_difference(works, other)
        self.assertEqual(told is not None, told_apart(works, other))
        if told is not None:
            self.assertIs(type(told), tuple)
            self.assertLessEqual(len(told), 4000)
            self.assertNotEqual(takes_by_hand(works, told), takes_by_hand(other, told))
        return told

    def test_all_small_works(self):
        works = [(1, (house,)) for house in all_houses(2, 2, (0, 1))]
        for one, two in itertools.product(works, works[::3]):
            self.check(one, two)

    def test_chance_works(self):
        chance = random.Random(341)
        alike = 0
        for number in range(500):
            plain, helpers = chance.choice(((1, 1), (1, 2), (1, 3), (2, 2), (4, 2), (3, 3)))
            one = random_works(chance, plain, helpers, 3, (0, 0, 1))
            two = random_works(chance, plain, helpers, 3, (0, 0, 1))
            alike += self.check(one, two) is None
        self.assertGreater(alike, 20)

    def test_works_that_differ_in_one_way(self):
        chance = random.Random(342)
        for number in range(400):
            plain, helpers = chance.choice(((1, 1), (1, 2), (1, 3), (2, 2)))
            one = random_works(chance, plain, helpers, 4, (0, TOP))
            houses = list(one[1])
            at = chance.randrange(helpers)
            letters, marks, ways = houses[at]
            rooms = [list(row) for row in ways]
            rooms[chance.randrange(len(marks))][chance.randrange(letters)] = chance.randrange(len(marks))
            houses[at] = (letters, marks, tuple(tuple(row) for row in rooms))
            self.check(one, (plain, tuple(houses)))
            self.check((plain, tuple(houses)), one)

    def test_other_marks_tell_nothing_apart(self):
        for works in many_works(343, 60, 2, 2):
            houses = tuple(
                (house[0], tuple(mark * TOP for mark in house[1]), house[2]) for house in works[1]
            )
            self.assertIsNone(self.check(works, (works[0], houses)))

    def test_helpers_of_no_use_tell_nothing_apart(self):
        outer = (3, (1, 0), ((0, 0, 1), (1, 1, 1)))
        one = (1, (outer, (3, (1,), ((0, 0, 0),))))
        two = (1, (outer, (3, (0,), ((0, 0, 0),))))
        self.assertIsNone(self.check(one, two))
        # A house that takes calls of a helper without a row is like one that does not.
        last = (3, (0,), ((0, 0, 0),))
        one = (1, ((3, (1,), ((0, 0, 0),)), last))
        self.assertIsNone(self.check(one, (1, (outer, last))))

    def test_no_rows_at_all(self):
        for plain, helpers in ((1, 1), (3, 3), (4, 2)):
            none = nothing_taken(plain, helpers)
            self.assertIsNone(self.check(none, none))
            self.assertEqual(self.check(none, everything(plain, helpers)), ())
            self.assertEqual(self.check(everything(plain, helpers), none), ())

    def test_long_rows(self):
        houses = list(DEEP[1])
        houses[2] = (4, (0, 1, 0, 1), houses[2][2])
        told = self.check(DEEP, (1, tuple(houses)))
        self.assertIsNotNone(told)
        self.assertIsNone(self.check(DEEP, copy.deepcopy(DEEP)))

    def test_unlike_counts(self):
        chance = random.Random(344)
        sizes = ((1, 1), (1, 2), (2, 1), (2, 2), (1, 3), (3, 1))
        for one, two in itertools.permutations(sizes, 2):
            self.assert_refused(
                BadHouse, works_difference, random_works(chance, *one), random_works(chance, *two)
            )

    def test_the_least_and_the_greatest(self):
        chance = random.Random(345)
        for plain, helpers in ((1, 1), (4, 2), (3, 3), (1, 3), (4, 1)):
            for rooms in (1, 4):
                letters = plain + helpers
                for number in range(6):
                    pair = [
                        (plain, tuple(random_house(chance, letters, rooms) for j in range(helpers)))
                        for k in (0, 1)
                    ]
                    self.check(*pair)


if __name__ == "__main__":
    unittest.main()
