"""[0.2], [0.5], [11.1], [11.2] and the interface's guessroom/lone.py."""

import random
import unittest

from guessroom.errors import BadMark, OutOfTurn
from guessroom.house import made
from guessroom.least import least
from guessroom.lone import LoneAsker
from guessroom.suite import slim
from hunts import WRONG_MARKS, scattered
from refusals import RefusalTest
from samples import (
    TOP, all_houses, answer, chain, late_pair, pairs_told_apart, random_house, random_houses,
    reached_by_hand, ring, words_by_hand,
)


def most_words(letters, most):
    """The bound of [11.2]."""
    total = (1 + (most + 1) * letters) * (most + 1) + 10 * most
    for rooms in range(1, most + 1):
        total += rooms * rooms * sum(letters ** count for count in range(most - rooms + 2))
    return total


class WatchedLone:
    """A LoneAsker of which each promise that holds whatever it is told is looked at."""

    def __init__(self, test, letters, most, nagged=False):
        self.test = test
        self.letters = letters
        self.most = most
        self.nagged = nagged
        self.asker = LoneAsker(letters, most)
        self.twin = LoneAsker(letters, most)
        self.told = {}
        self.look()

    def wish(self):
        return self.asker.wants()

    def hear(self, mark):
        self.told[self.wish()[1]] = mark
        self.test.assertIsNone(self.asker.hear(mark))
        self.twin.hear(mark)
        self.look()

    def look(self):
        test = self.test
        kind, thing = self.wish()
        test.assertIs(type(self.wish()), tuple)
        test.assertEqual(self.wish(), self.twin.wants())
        if self.nagged:
            self.nag()
        if kind == "ask":
            test.assertIs(type(thing), tuple)
            test.assertTrue(all(0 <= letter < self.letters for letter in thing))
            test.assertNotIn(thing, self.told)
            return
        test.assertEqual(self.asker.heard(), list(self.told.items()))
        test.assertLessEqual(len(self.told), most_words(self.letters, self.most))
        if kind == "done":
            self.look_at_house(thing)
        else:
            test.assertEqual(kind, "spent")

    def look_at_house(self, house):
        test = self.test
        test.assertEqual(made(*house), house)
        test.assertLessEqual(len(house[1]), self.most)
        for word, mark in self.told.items():
            test.assertEqual(answer(house, word), mark)
        # Every word of the slim suite was told.
        for word in slim(house, self.most - len(house[1])):
            test.assertIn(word, self.told)

    def nag(self):
        kind = self.wish()[0]
        before = (self.wish(), self.asker.heard())
        if kind == "ask":
            for mark in WRONG_MARKS:
                self.test.assert_refused(BadMark, self.asker.hear, mark)
        else:
            for mark in (0, TOP) + WRONG_MARKS:
                self.test.assert_refused(OutOfTurn, self.asker.hear, mark)
        self.test.assertEqual((self.wish(), self.asker.heard()), before)
        self.test.assert_own_list(self.asker.heard)

    def lead(self, answer_for):
        while self.wish()[0] == "ask":
            self.hear(answer_for(self.wish()[1]))
        return self.wish()


class HuntTest(RefusalTest):
    def hunt(self, house, most, nagged=False):
        watched = WatchedLone(self, house[0], most, nagged)
        kind, thing = watched.lead(lambda word: answer(house, word))
        rooms = len(least(house)[1])
        if rooms <= most:
            self.assertEqual(kind, "done")
            self.assertNotIn((0, 0), pairs_told_apart(thing, house))
            self.assertEqual(len(thing[1]), rooms)
        return watched

    def test_its_first_wish(self):
        for letters in (1, 6):
            for most in (1, 4):
                asker = LoneAsker(letters, most)
                self.assertEqual(asker.wants(), ("ask", ()))
                self.assertEqual(asker.heard(), [])

    def test_one_room(self):
        for letters in range(1, 7):
            for most in (1, 4):
                for mark in (0, TOP):
                    house = (letters, (mark,), ((0,) * letters,))
                    watched = self.hunt(house, most)
                    self.assertEqual(watched.wish(), ("done", house))
                    # All words of at most `most` letters are the slim suite of one room.
                    self.assertEqual(set(watched.told), set(words_by_hand(letters, most)))

    def test_all_small_houses(self):
        for letters, rooms in ((1, 1), (1, 2), (1, 3), (2, 2)):
            for house in all_houses(letters, rooms, (0, 1)):
                for most in (1, 2, 3, 4):
                    self.hunt(house, most)

    def test_houses_of_three_and_four_rooms(self):
        for house in list(all_houses(2, 3, (0, 1)))[::29]:
            for most in (2, 3, 4):
                self.hunt(house, most)
        for house in random_houses(401, 80, 6, 4):
            self.hunt(house, 4)

    def test_refusals_along_the_way(self):
        for house in random_houses(402, 15, 2, 4):
            for most in (2, 4):
                self.hunt(house, most, nagged=True)

    def test_as_many_rooms_as_most_and_one_more(self):
        chance = random.Random(403)
        ends = set()
        for letters in (1, 2, 3, 6):
            for most in (1, 2, 3, 4):
                for rooms in (most, most + 1):
                    marks = (0,) * (rooms - 1) + (TOP,)
                    for house in (
                        chain(letters, rooms), ring(letters, rooms, marks),
                        random_house(chance, letters, rooms),
                    ):
                        ends.add(self.hunt(house, most).wish()[0])
        self.assertEqual(ends, {"done", "spent"})

    def test_rooms_that_only_long_words_tell_apart(self):
        for letters in (1, 2, 6):
            for house in late_pair(letters, 4, 4) + late_pair(letters, 3, 4):
                self.hunt(house, 4)

    def test_a_later_guess_that_answers_a_word_of_the_suite_otherwise(self):
        ways = ((2, 3), (5, 5), (1, 0), (4, 2), (0, 2), (6, 1), (6, 5))
        house = (2, (0, 0, 0, 1, 0, 0, 0), ways)
        for most in (2, 3, 4):
            self.hunt(house, most, nagged=True)

    def test_spent_where_no_small_house_answers_so(self):
        """[11.2], against every house with two letters and at most two rooms."""
        every = [house for rooms in (1, 2) for house in all_houses(2, rooms, (0, 1))]
        spent = 0
        for house in random.Random(405).sample(list(all_houses(2, 3, (0, 1))), 250):
            watched = self.hunt(house, 2)
            kind, thing = watched.wish()
            fitting = [
                other for other in every
                if all(answer(other, word) == mark for word, mark in watched.told.items())
            ]
            if kind == "spent":
                self.assertEqual(fitting, [])
                spent += 1
            else:
                self.assertTrue(fitting)
                for other in fitting:
                    self.assertNotIn((0, 0), pairs_told_apart(other, thing))
        self.assertGreater(spent, 10)

    def test_done_with_the_only_house_that_answers_so(self):
        """[11.2], of houses some of whose rooms are not reached."""
        for house in random_houses(404, 40, 2, 6):
            if len(reached_by_hand(house)) <= 4:
                watched = self.hunt(house, 4)
                self.assertEqual(watched.wish()[0], "done")


class AnyAnswerTest(RefusalTest):
    def test_marks_that_no_house_answers(self):
        for letters in (1, 2, 3, 6):
            for most in (1, 2, 4):
                for kinds in (2, 3, TOP):
                    watched = WatchedLone(self, letters, most)
                    kind, thing = watched.lead(lambda word: scattered(word, kinds))
                    if kind == "spent":
                        self.assertIn(thing[-1], range(letters))

    def test_rare_marks(self):
        for letters in (1, 2, 3):
            for rare in (5, 20, 60, 200):
                watched = WatchedLone(self, letters, 4)
                watched.lead(lambda word: int(scattered(word, rare) == 0))

    def test_marks_by_the_count_of_letters(self):
        for letters in (1, 2, 6):
            for every in (2, 3, 4, 5, 6, 9):
                watched = WatchedLone(self, letters, 4)
                kind, thing = watched.lead(lambda word: int(len(word) % every == every - 1))
                self.assertEqual(kind == "done", every <= 4 or every > 5)
                if every > 5:
                    self.assertEqual(len(thing[1]), 1)

    def test_refusals_along_the_way(self):
        for kinds in (2, 3):
            watched = WatchedLone(self, 2, 3, nagged=True)
            watched.lead(lambda word: scattered(word, kinds))


class DeedsTest(RefusalTest):
    def test_nothing_more_at_the_end(self):
        for house, due in (
            ((1, (3,), ((0,),)), ("done", (1, (3,), ((0,),)))),
            ((1, (0, 1), ((1,), (1,))), ("spent", (0,))),
        ):
            asker = LoneAsker(1, 1)
            while asker.wants()[0] == "ask":
                asker.hear(answer(house, asker.wants()[1]))
            self.assertEqual(asker.wants(), due)
            for mark in (0, TOP, -1, TOP + 1):
                self.assert_refused(OutOfTurn, asker.hear, mark)
            self.assertEqual(asker.wants(), due)

    def test_it_shows_and_agrees_to_nothing(self):
        self.assertFalse(hasattr(LoneAsker, "differ"))
        self.assertFalse(hasattr(LoneAsker, "agree"))

    def test_a_word_of_the_suite_objected_with(self):
        # Up to three letters all marks are alike: the suite of one room finds the fourth.
        house = chain(1, 4, (0, 0, 0, 0))
        asker = LoneAsker(1, 4)
        while asker.wants()[0] == "ask":
            asker.hear(answer(house, asker.wants()[1]))
        self.assertEqual(asker.wants(), ("done", (1, (0,), ((0,),))))
        house = chain(1, 4)
        asker = LoneAsker(1, 4)
        while asker.wants()[0] == "ask":
            asker.hear(answer(house, asker.wants()[1]))
        self.assertEqual(asker.wants(), ("done", house))

    def test_lists_are_their_askers_own(self):
        asker = LoneAsker(2, 2)
        asker.hear(4)
        asker.hear(5)
        self.assert_own_list(asker.heard)
        early = asker.heard()
        asker.hear(6)
        self.assertEqual(len(early), 2)

    def test_askers_keep_nothing_of_one_another(self):
        one = LoneAsker(2, 3)
        two = LoneAsker(2, 3)
        one.hear(5)
        self.assertEqual((two.heard(), two.wants()), ([], ("ask", ())))


if __name__ == "__main__":
    unittest.main()
