"""[0.2], [0.5], [6.4] and the interface's guessroom/sayasker.py."""

import random
import unittest

from guessroom.errors import BadMark, BadWord, Contradiction, NoDifference, OutOfTurn
from guessroom.sayasker import SayAsker
from guessroom.sayhouse import says_difference, says_from, says_least
from anyanswers import AnyAnswers
from hunts import WatchedSays, lead, long_saying, state
from refusals import RefusalTest
from samples import (
    TOP, all_says, chain, late_pair, many_says, pairs_told_apart, random_says, random_word, ring,
    say_answer,
)

OBJECTIONS = (says_difference, long_saying(17), long_saying(399), long_saying(400))


class HuntTest(RefusalTest):
    def hunt(self, house, most, objection=says_difference, nagged=False):
        """[4.7] of houses that say, along a hunt in which [4.4] to [4.6] are looked at."""
        watched = WatchedSays(self, house[0], most, nagged)
        kind, thing = lead(watched, house, objection)
        rooms = len(says_least(house)[1])
        self.assertLessEqual(len(watched.shown), rooms)
        if rooms <= most:
            self.assertEqual(kind, "done")
            self.assertNotIn((0, 0), pairs_told_apart(thing, house))
            self.assertEqual(len(thing[1]), rooms)
        else:
            self.assertEqual(kind, "spent")
        return watched

    def test_by_hand(self):
        house = (2, ((4, 5), (6, 4)), ((1, 0), (1, 0)))
        watched = self.hunt(house, 2)
        self.assertEqual(watched.wish(), ("done", house))
        self.assertEqual(watched.asker.access(), [(), (0,)])
        self.assertEqual(watched.asker.tellers(), [(0,), (1,)])

    def test_it_stands_under_no_other_class(self):
        self.assertEqual(SayAsker.__mro__, (SayAsker, object))

    def test_its_first_wish(self):
        for letters in (1, 6):
            for most in (1, 12):
                asker = SayAsker(letters, most)
                self.assertEqual(asker.wants(), ("ask", (0,)))
                self.assertEqual(asker.access(), [()])
                self.assertEqual(asker.tellers(), [(letter,) for letter in range(letters)])
                self.assertEqual(asker.heard(), [])

    def test_one_room(self):
        for letters in range(1, 7):
            for most in (1, 12):
                for mark in (0, TOP):
                    says = ((mark,) * (letters - 1) + (TOP - mark,),)
                    house = (letters, says, ((0,) * letters,))
                    watched = self.hunt(house, most, nagged=True)
                    self.assertEqual(watched.wish(), ("done", house))
                    self.assertEqual(watched.shown, [house])
                    self.assertEqual(watched.asked, letters + letters * letters)

    def test_all_small_houses(self):
        for letters, rooms in ((1, 1), (1, 2), (1, 3), (2, 1), (2, 2)):
            for house in all_says(letters, rooms, (0, 1)):
                for most in range(1, rooms + 1):
                    self.hunt(house, most)

    def test_small_houses_with_long_objections(self):
        for house in list(all_says(2, 2, (0, 1)))[::7]:
            for objection in OBJECTIONS:
                for most in (1, 2):
                    self.hunt(house, most, objection)

    def test_refusals_along_the_way(self):
        for house in many_says(111, 14, most_letters=3, most_rooms=5):
            for most in (2, 5):
                self.hunt(house, most, nagged=True)
                self.hunt(house, most, long_saying(400), nagged=True)

    def test_greater_houses(self):
        for house in many_says(112, 12, 6, 12, (0, 0, 0, 0, 0, 0, TOP)):
            for objection in (says_difference, long_saying(400)):
                self.hunt(house, 12, objection)

    def test_as_many_rooms_as_most_and_one_more(self):
        chance = random.Random(113)
        for most in (1, 2, 11, 12):
            for letters in (1, 2, 6):
                for rooms in (most, most + 1):
                    marks = (0,) * (rooms - 1) + (TOP,)
                    for house in (
                        says_from(chain(letters, rooms)), says_from(ring(letters, rooms, marks)),
                        random_says(chance, letters, rooms),
                    ):
                        for objection in (says_difference, long_saying(400)):
                            self.hunt(house, most, objection)

    def test_many_more_rooms_than_most(self):
        chance = random.Random(114)
        for letters in (1, 2, 6):
            for most in (1, 4, 12):
                for objection in (says_difference, long_saying(400)):
                    self.hunt(random_says(chance, letters, 40), most, objection)
                    self.hunt(says_from(chain(letters, 40)), most, objection)

    def test_rooms_that_only_long_words_tell_apart(self):
        for letters in (1, 2, 6):
            for rooms, others in ((6, 6), (12, 12)):
                for house in late_pair(letters, rooms, others):
                    self.hunt(says_from(house), 12)

    def test_chance_objections(self):
        chance = random.Random(115)

        def objection(house, other):
            for number in range(40):
                word = random_word(chance, house[0], chance.randint(1, 400))
                if say_answer(house, word) != say_answer(other, word):
                    return word
            return says_difference(house, other)

        for house in many_says(116, 30, most_letters=3, most_rooms=12, marks=(0, 0, 0, 1)):
            self.hunt(house, 12, objection)
            self.hunt(house, 6, objection)


class AnyAnswerTest(AnyAnswers, RefusalTest):
    watched = WatchedSays


class DeedsTest(RefusalTest):
    def shown(self, house, most):
        asker = SayAsker(house[0], most)
        while asker.wants()[0] == "ask":
            asker.hear(say_answer(house, asker.wants()[1]))
        return asker

    def test_a_wrong_house_agreed_to(self):
        asker = self.shown(says_from(chain(2, 5)), 12)
        wrong = (2, ((0, 0),), ((0, 0),))
        self.assertEqual(asker.wants(), ("show", wrong))
        self.assertIsNone(asker.agree())
        self.assertEqual(asker.wants(), ("done", wrong))
        self.look_at_end(asker)

    def test_nothing_more_when_spent(self):
        asker = self.shown((1, ((0,), (1,)), ((1,), (0,))), 1)
        self.assertEqual(asker.wants(), ("spent", (0,)))
        self.assertEqual(asker.access(), [()])
        self.look_at_end(asker)

    def look_at_end(self, asker):
        kept = state(asker)
        for mark in (0, 1, -1, TOP + 1):
            self.assert_refused(OutOfTurn, asker.hear, mark)
            for word in ((), (0, 0, 0), (7,)):
                self.assert_refused(OutOfTurn, asker.differ, word, mark)
        self.assert_refused(OutOfTurn, asker.agree)
        self.assertEqual(state(asker), kept)

    def test_refusals_of_hear_and_agree(self):
        asker = SayAsker(1, 3)
        for mark in (-1, TOP + 1):
            self.assert_refused(BadMark, asker.hear, mark)
        self.assert_refused(OutOfTurn, asker.agree)
        self.assertEqual(asker.heard(), [])
        self.assertIsNone(asker.hear(TOP))
        self.assertIsNone(asker.hear(TOP))
        self.assertEqual(asker.wants(), ("show", (1, ((TOP,),), ((0,),))))
        for mark in (0, TOP, -1, TOP + 1):
            self.assert_refused(OutOfTurn, asker.hear, mark)

    def test_refusals_of_differ_in_their_order(self):
        asker = SayAsker(2, 3)
        for word in ((), (2,), (0,)):
            self.assert_refused(OutOfTurn, asker.differ, word, -1)
        asker = self.shown((2, ((4, 5),), ((0, 0),)), 3)
        kept = state(asker)
        for mark in (-1, TOP + 1, 4, 6):
            for word in ((), (0, 2), (-1,)):
                self.assert_refused(BadWord, asker.differ, word, mark)
        self.assert_refused(BadMark, asker.differ, (0,), -1)
        self.assert_refused(BadMark, asker.differ, (0, 0, 0), TOP + 1)
        self.assert_refused(NoDifference, asker.differ, (0,), 4)
        self.assert_refused(NoDifference, asker.differ, (0, 0, 1), 5)
        self.assert_refused(Contradiction, asker.differ, (0,), 5)
        self.assert_refused(Contradiction, asker.differ, (1, 1), 0)
        self.assertEqual(state(asker), kept)
        self.assertIsNone(asker.differ((0, 0, 0), 5))
        self.assertIn(((0, 0, 0), 5), asker.heard())

    def test_a_word_told_before_objected_with_once_more(self):
        house = says_from(chain(1, 6))
        asker = self.shown(house, 6)
        asker.differ((0,) * 300, 1)
        while asker.wants()[0] == "ask":
            asker.hear(say_answer(house, asker.wants()[1]))
        for word, mark in asker.heard():
            self.assert_refused(NoDifference, asker.differ, word, mark)
            self.assert_refused(Contradiction, asker.differ, word, mark + 1)

    def test_lists_are_their_askers_own(self):
        house = says_from(chain(2, 5))
        asker = self.shown(house, 12)
        asker.differ((1, 1, 1, 1), 1)
        for number in range(3):
            for function in (asker.access, asker.tellers, asker.heard):
                self.assert_own_list(function)
            asker.hear(say_answer(house, asker.wants()[1]))

    def test_askers_keep_nothing_of_one_another(self):
        one = SayAsker(2, 3)
        two = SayAsker(2, 3)
        one.hear(5)
        self.assertEqual(two.heard(), [])
        self.assertEqual(two.wants(), ("ask", (0,)))


if __name__ == "__main__":
    unittest.main()
