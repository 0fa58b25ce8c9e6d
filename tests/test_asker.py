"""[0.2], [0.5], [4.4] to [4.8] and the interface's guessroom/asker.py."""

import random
import unittest

from guessroom.asker import Asker
from guessroom.errors import BadMark, BadWord, Contradiction, NoDifference, OutOfTurn
from guessroom.least import least
from guessroom.telling import difference
from anyanswers import AnyAnswers
from hunts import OBJECTIONS, Watched, lead, long_objection, state
from refusals import RefusalTest
from samples import (
    TOP, all_houses, answer, chain, late_pair, pairs_told_apart, random_house, random_houses,
    random_word, ring,
)


def told_alike(house, other):
    return (0, 0) not in pairs_told_apart(house, other)


class HuntTest(RefusalTest):
    def hunt(self, house, most, objection=difference, nagged=False):
        """[4.7], along a hunt in which [4.4] to [4.6] are looked at."""
        watched = Watched(self, house[0], most, nagged)
        kind, thing = lead(watched, house, objection)
        rooms = len(least(house)[1])
        self.assertLessEqual(len(watched.shown), rooms)
        if rooms <= most:
            self.assertEqual(kind, "done")
            self.assertTrue(told_alike(thing, house))
            self.assertEqual(len(thing[1]), rooms)
        else:
            self.assertEqual(kind, "spent")
        return watched

    def test_by_hand(self):
        house = (2, (5, 0, 9), ((1, 2), (2, 1), (0, 1)))
        watched = self.hunt(house, 3)
        self.assertEqual(watched.wish(), ("done", house))
        self.assertEqual(watched.asker.access(), [(), (0,), (1,)])
        self.assertEqual(watched.asker.tellers(), [()])

    def test_its_first_wish(self):
        for letters in (1, 6):
            for most in (1, 12):
                asker = Asker(letters, most)
                self.assertEqual(asker.wants(), ("ask", ()))
                self.assertEqual(asker.access(), [()])
                self.assertEqual(asker.tellers(), [()])
                self.assertEqual(asker.heard(), [])
                self.assertEqual(asker.letters, letters)

    def test_one_room(self):
        for letters in range(1, 7):
            for most in (1, 12):
                for mark in (0, TOP):
                    house = (letters, (mark,), ((0,) * letters,))
                    watched = self.hunt(house, most, nagged=True)
                    self.assertEqual(watched.wish(), ("done", house))
                    self.assertEqual(watched.shown, [house])
                    self.assertEqual(watched.asked, 1 + letters)

    def test_all_small_houses(self):
        for letters, rooms in ((1, 1), (1, 2), (1, 3), (2, 2), (3, 2)):
            for house in all_houses(letters, rooms, (0, 1)):
                for most in range(1, rooms + 1):
                    self.hunt(house, most)

    def test_small_houses_with_long_objections(self):
        for house in list(all_houses(2, 3, (0, 1)))[::97]:
            for objection in OBJECTIONS:
                for most in (2, 3):
                    self.hunt(house, most, objection)

    def test_refusals_along_the_way(self):
        for house in random_houses(41, 20, most_letters=3, most_rooms=5):
            for most in (2, 5):
                self.hunt(house, most, nagged=True)
                self.hunt(house, most, long_objection(400), nagged=True)

    def test_greater_houses(self):
        for house in random_houses(42, 24, most_letters=6, most_rooms=12, marks=(0, 0, 0, TOP)):
            for objection in OBJECTIONS[::2]:
                self.hunt(house, 12, objection)

    def test_as_many_rooms_as_most_and_one_more(self):
        chance = random.Random(43)
        for most in (1, 2, 5, 11, 12):
            for letters in (1, 2, 6):
                for rooms in (most, most + 1):
                    marks = (0,) * (rooms - 1) + (TOP,)
                    for house in (
                        chain(letters, rooms), ring(letters, rooms, marks),
                        random_house(chance, letters, rooms),
                    ):
                        for objection in (difference, long_objection(400)):
                            self.hunt(house, most, objection)

    def test_many_more_rooms_than_most(self):
        chance = random.Random(44)
        for letters in (1, 2, 6):
            for most in (1, 4, 12):
                for objection in (difference, long_objection(400)):
                    self.hunt(random_house(chance, letters, 40), most, objection)
                    self.hunt(ring(letters, 40, (0,) * 39 + (1,)), most, objection)
                    self.hunt(chain(letters, 40), most, objection)

    def test_rooms_that_only_long_words_tell_apart(self):
        for letters in (1, 2, 6):
            for rooms, others in ((6, 6), (12, 12), (11, 12)):
                for house in late_pair(letters, rooms, others):
                    self.hunt(house, 12)
                    self.hunt(house, 11)

    def test_chance_objections(self):
        chance = random.Random(45)

        def objection(house, other):
            for number in range(40):
                word = random_word(chance, house[0], chance.randint(1, 400))
                if answer(house, word) != answer(other, word):
                    return word
            return difference(house, other)

        for house in random_houses(46, 40, most_letters=4, most_rooms=12):
            self.hunt(house, 12, objection)
            self.hunt(house, 6, objection)


class AnyAnswerTest(AnyAnswers, RefusalTest):
    watched = Watched

    def test_marks_all_unlike(self):
        for letters in (1, 6):
            for most in (1, 12):
                watched = self.drive(
                    letters, most, lambda word: len(word) * 6 + sum(word), lambda house: (0,)
                )
                self.assertEqual(watched.shown, [])


class DeedsTest(RefusalTest):
    def shown(self, house, most):
        """An asker that the house has answered, up to the first house shown."""
        asker = Asker(house[0], most)
        while asker.wants()[0] == "ask":
            asker.hear(answer(house, asker.wants()[1]))
        return asker

    def test_a_wrong_house_agreed_to(self):
        asker = self.shown(chain(2, 4), 12)
        wrong = (2, (0,), ((0, 0),))
        self.assertEqual(asker.wants(), ("show", wrong))
        self.assertIsNone(asker.agree())
        self.assertEqual(asker.wants(), ("done", wrong))
        self.assertEqual(asker.access(), [()])

    def test_nothing_more_when_done(self):
        asker = self.shown(chain(2, 4), 12)
        asker.agree()
        self.look_at_end(asker)

    def test_nothing_more_when_spent(self):
        asker = self.shown((1, (0, 1), ((1,), (0,))), 1)
        self.assertEqual(asker.wants(), ("spent", (0,)))
        self.assertEqual(asker.access(), [()])
        self.look_at_end(asker)

    def look_at_end(self, asker):
        kept = state(asker)
        for mark in (0, 1, -1, TOP + 1):
            self.assert_refused(OutOfTurn, asker.hear, mark)
            for word in ((), (1, 1, 1), (7,)):
                self.assert_refused(OutOfTurn, asker.differ, word, mark)
        self.assert_refused(OutOfTurn, asker.agree)
        self.assertEqual(state(asker), kept)

    def test_refusals_of_hear(self):
        asker = Asker(2, 3)
        for mark in (-1, TOP + 1):
            self.assert_refused(BadMark, asker.hear, mark)
        self.assertEqual(asker.heard(), [])
        asker.hear(TOP)
        asker.hear(TOP)
        asker.hear(TOP)
        self.assertEqual(asker.wants(), ("show", (2, (TOP,), ((0, 0),))))
        for mark in (0, TOP, -1, TOP + 1):
            self.assert_refused(OutOfTurn, asker.hear, mark)

    def test_refusals_of_agree(self):
        asker = Asker(2, 3)
        self.assert_refused(OutOfTurn, asker.agree)
        self.assertEqual(asker.wants(), ("ask", ()))

    def test_refusals_of_differ_in_their_order(self):
        asker = Asker(2, 3)
        self.assert_refused(OutOfTurn, asker.differ, (2,), -1)
        asker = self.shown((2, (4,), ((0, 0),)), 3)
        kept = state(asker)
        self.assert_refused(BadWord, asker.differ, (0, 2), -1)
        self.assert_refused(BadWord, asker.differ, (-1,), 4)
        self.assert_refused(BadMark, asker.differ, (), -1)
        self.assert_refused(BadMark, asker.differ, (0, 0), TOP + 1)
        self.assert_refused(NoDifference, asker.differ, (), 4)
        self.assert_refused(NoDifference, asker.differ, (0, 0), 4)
        self.assert_refused(Contradiction, asker.differ, (), 5)
        self.assert_refused(Contradiction, asker.differ, (1,), 0)
        self.assertEqual(state(asker), kept)
        self.assertIsNone(asker.differ((0, 0), 5))
        self.assertIn(((0, 0), 5), asker.heard())

    def test_an_objection_is_kept_in_the_order_of_telling(self):
        asker = self.shown(chain(1, 3), 3)
        asker.differ((0, 0), 1)
        self.assertEqual(asker.heard()[:3], [((), 0), ((0,), 0), ((0, 0), 1)])

    def test_the_same_words_whoever_asks(self):
        house = random_house(random.Random(61), 3, 9)
        one = Watched(self, 3, 12)
        lead(one, house, long_objection(400))
        two = Watched(self, 3, 12)
        lead(two, house, long_objection(400))
        self.assertEqual(state(one.asker), state(two.asker))

    def test_askers_keep_nothing_of_one_another(self):
        one = Asker(2, 3)
        two = Asker(2, 3)
        one.hear(5)
        self.assertEqual(two.heard(), [])
        self.assertEqual(two.wants(), ("ask", ()))

    def test_lists_are_their_askers_own(self):
        house = chain(2, 4)
        asker = self.shown(house, 12)
        asker.differ((1, 1, 1), 1)
        for number in range(3):
            for function in (asker.access, asker.tellers, asker.heard):
                self.assert_own_list(function)
            asker.hear(answer(house, asker.wants()[1]))
        early = (asker.access(), asker.tellers(), asker.heard())
        counts = [len(row) for row in early]
        while asker.wants()[0] == "ask":
            asker.hear(answer(house, asker.wants()[1]))
        self.assertEqual([len(row) for row in early], counts)


if __name__ == "__main__":
    unittest.main()
