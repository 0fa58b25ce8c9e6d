"""[0.2], [0.5], [8.1] to [8.6] and the interface's guessroom/sumasker.py."""

import random
import unittest

from guessroom.errors import BadMark, BadWord, Contradiction, NoDifference, OutOfTurn
from guessroom.sumasker import SumAsker
from guessroom.sumleast import sums_alike, sums_difference, sums_least
from hunts import drive, lead, scattered, state
from refusals import RefusalTest
from samples import FAR, GREAT, PRIMES, random_word
from sumhunts import WatchedSums
from sums import counter, late, many_sums, nothing, padded, random_sums, wheel, worth_by_hand


def chance_objection(seed, count):
    """A word with just so many letters where one is soon found that tells the two apart."""
    chance = random.Random(seed)

    def objection(house, other):
        for number in range(6):
            word = random_word(chance, house[1], count)
            if worth_by_hand(house, word) != worth_by_hand(other, word):
                return word
        return sums_difference(house, other)

    return objection


def last_letters(count):
    """So many times the last letter, where the two are told apart by that; or fewer of them."""
    def objection(house, other):
        for number in range(count, -1, -1):
            word = (house[1] - 1,) * number
            if worth_by_hand(house, word) != worth_by_hand(other, word):
                return word
        return sums_difference(house, other)

    return objection


class HuntTest(RefusalTest):
    def hunt(self, house, most, objection=sums_difference, nagged=False):
        """[8.5], along a hunt in which [8.1] to [8.4] are looked at."""
        watched = WatchedSums(self, house[0], house[1], most, nagged)
        kind, thing = lead(watched, house, objection)
        size = len(sums_least(house)[2])
        self.assertLessEqual(len(watched.shown), size + 1)
        if size <= most:
            self.assertEqual(kind, "done")
            self.assertTrue(sums_alike(thing, house))
            self.assertEqual(len(thing[2]), size)
        else:
            self.assertEqual(kind, "spent")
        return watched

    def test_by_hand(self):
        watched = self.hunt(counter(5, 2), 2)
        self.assertEqual(watched.asker.access(), [(), (1,)])
        self.assertEqual(len(watched.shown), 2)
        self.assertEqual(watched.shown[0], nothing(5, 2))
        self.assertEqual(
            watched.wish(), ("done", (5, 2, (1, 0), (((1, 0), (0, 1)), ((0, 1), (4, 2))), (0, 1)))
        )

    def test_its_first_wish(self):
        for p in PRIMES:
            for letters in (1, 6):
                for most in (1, 8):
                    asker = SumAsker(p, letters, most)
                    self.assertEqual(asker.wants(), ("show", nothing(p, letters)))
                    self.assertEqual((asker.access(), asker.tellers(), asker.heard()), ([],) * 3)
                    self.assertEqual((asker.p, asker.letters), (p, letters))

    def test_nothing(self):
        for p in PRIMES:
            for size in (0, 1, 5):
                watched = self.hunt(nothing(p, 2, size), 1, nagged=True)
                self.assertEqual(watched.wish(), ("done", nothing(p, 2)))
                self.assertEqual(watched.asked, 0)

    def test_one_number(self):
        for p in PRIMES:
            for letters in (1, 6):
                house = (p, letters, (p - 1,), (((p - 1,),),) * letters, (1,))
                for most in (1, 8):
                    self.hunt(house, most, nagged=True)

    def test_small_houses(self):
        for house in many_sums(181, 80, 3, 3):
            for most in (1, 2, 3):
                self.hunt(house, most)

    def test_refusals_along_the_way(self):
        for house in many_sums(182, 15, 3, 4):
            for most in (2, 4):
                self.hunt(house, most, nagged=True)
                self.hunt(house, most, chance_objection(183, 60), nagged=True)

    def test_greater_houses(self):
        for house in many_sums(184, 10, 6, 8):
            self.hunt(house, 8)
            self.hunt(house, 8, chance_objection(185, 17))

    def test_as_many_numbers_as_most_and_one_more(self):
        chance = random.Random(186)
        for most in (1, 2, 7, 8):
            for p in (2, GREAT):
                for letters in (1, 2, 6):
                    for size in (most, most + 1):
                        self.hunt(late(p, letters, size), most)
                        self.hunt(wheel(p, letters, size), most, last_letters(40))
                        self.hunt(random_sums(chance, p, letters, size), most)

    def test_many_more_numbers_than_most(self):
        chance = random.Random(187)
        for p in (2, GREAT):
            for letters in (1, 6):
                for most in (1, 8):
                    self.hunt(random_sums(chance, p, letters, 16), most)
                    self.hunt(wheel(p, letters, 16), most)

    def test_more_numbers_than_needed(self):
        chance = random.Random(188)
        for house in many_sums(189, 12, 3, 4):
            self.hunt(padded(house, chance), 8)

    def test_long_objections(self):
        for p in (2, GREAT):
            for letters, size in ((1, 8), (2, 5), (6, 3)):
                self.hunt(wheel(p, letters, size), 8, last_letters(400))
                house = random_sums(random.Random(190), p, letters, size)
                self.hunt(house, 8, chance_objection(191, 400))
                self.hunt(house, size - 1, chance_objection(192, 399))


class AnyAnswerTest(RefusalTest):
    def drive(self, p, letters, most, answer_for, objection_for, nagged=False):
        watched = WatchedSums(self, p, letters, most, nagged)
        drive(watched, answer_for, objection_for)
        return watched

    def test_numbers_that_no_house_tells(self):
        for p in (2, 3, GREAT):
            for letters in (1, 2, 6):
                for most in (1, 8):
                    self.drive(
                        p, letters, most, lambda word: scattered(word, p),
                        lambda house: (letters - 1,) * 30,
                    )

    def test_always_the_same_number_and_another_one_in_objections(self):
        chance = random.Random(193)
        for p in (2, GREAT):
            for letters in (1, 2, 6):
                for number in (0, 1, p - 1):
                    for count in (0, 5, 60):
                        self.drive(
                            p, letters, 8, lambda word: number,
                            lambda house: random_word(chance, letters, count),
                        )

    def test_the_longest_objections(self):
        chance = random.Random(194)
        longest = 0
        for p, letters in ((2, 1), (3, 2), (GREAT, 2), (2, 6)):
            for rare in (2, 40):
                watched = self.drive(
                    p, letters, 8, lambda word: int(scattered(word, rare) == 0),
                    lambda house: random_word(chance, letters, 400),
                )
                longest = max(longest, max(len(word) for word in watched.told))
        self.assertGreater(longest, 400)
        self.assertLessEqual(longest, 600)

    def test_refusals_along_the_way(self):
        chance = random.Random(195)
        for p in (2, GREAT):
            for letters in (1, 2):
                for most in (1, 3):
                    self.drive(
                        p, letters, most, lambda word: scattered(word, p),
                        lambda house: random_word(chance, letters, 40), nagged=True,
                    )


class DeedsTest(RefusalTest):
    def shown(self, house, most, word):
        """An asker that was objected to with the word, up to the next house shown."""
        asker = SumAsker(house[0], house[1], most)
        asker.differ(word, worth_by_hand(house, word))
        while asker.wants()[0] == "ask":
            asker.hear(worth_by_hand(house, asker.wants()[1]))
        return asker

    def test_a_wrong_house_agreed_to(self):
        asker = SumAsker(7, 2, 3)
        self.assertIsNone(asker.agree())
        self.assertEqual(asker.wants(), ("done", nothing(7, 2)))
        self.look_at_end(asker)
        # Whoever hides this house agrees to one that tells all words the worth 1.
        ones = (7, 2, (1,), (((1,),),) * 2, (1,))
        asker = self.shown((7, 2, (1, 0), (((1, 0), (0, 1)), ((1, 0), (0, 1))), (1, 1)), 8, (1, 1))
        self.assertEqual(asker.wants(), ("show", ones))
        asker.agree()
        self.assertEqual(asker.wants(), ("done", ones))
        self.look_at_end(asker)

    def test_nothing_more_when_spent(self):
        asker = self.shown(counter(7, 1), 1, (0,))
        self.assertEqual(asker.wants(), ("spent", (0,)))
        self.assertEqual(asker.access(), [()])
        self.assertEqual(len(asker.tellers()), 2)
        self.look_at_end(asker)

    def look_at_end(self, asker):
        kept = state(asker)
        for number in (0, 1, -1, asker.p):
            self.assert_refused(OutOfTurn, asker.hear, number)
            for word in ((), (0, 0, 0), (7,)):
                self.assert_refused(OutOfTurn, asker.differ, word, number)
        self.assert_refused(OutOfTurn, asker.agree)
        self.assertEqual(state(asker), kept)

    def test_refusals_of_hear(self):
        for p in PRIMES:
            asker = SumAsker(p, 2, 3)
            for number in (0, -1, p):
                self.assert_refused(OutOfTurn, asker.hear, number)
            self.assertIsNone(asker.differ((0, 1), p - 1))
            wish = asker.wants()
            self.assertEqual(wish[0], "ask")
            for number in (-1, p, p + 1, FAR, -FAR):
                self.assert_refused(BadMark, asker.hear, number)
            self.assert_refused(OutOfTurn, asker.agree)
            self.assert_refused(OutOfTurn, asker.differ, (9,), p)
            self.assertEqual(asker.wants(), wish)
            self.assertEqual(asker.heard(), [((0, 1), p - 1)])
            self.assertIsNone(asker.hear(p - 1))
            self.assertEqual(asker.heard(), [((0, 1), p - 1), (wish[1], p - 1)])

    def test_refusals_of_differ_in_their_order(self):
        asker = SumAsker(7, 2, 3)
        for word in ((2,), (-1,), (0, 0, 2)):
            for number in (-1, 7, 0, 1):
                self.assert_refused(BadWord, asker.differ, word, number)
        for word in ((), (0,), (1, 1)):
            for number in (-1, 7):
                self.assert_refused(BadMark, asker.differ, word, number)
            self.assert_refused(NoDifference, asker.differ, word, 0)
        self.assertEqual((asker.wants(), asker.heard()), (("show", nothing(7, 2)), []))
        house = (7, 2, (1,), (((2,),), ((3,),)), (1,))
        asker = self.shown(house, 3, (0, 1))
        self.assertEqual(asker.wants(), ("show", house))
        kept = state(asker)
        self.assert_refused(BadWord, asker.differ, (0, 2), 7)
        self.assert_refused(BadMark, asker.differ, (0, 1), 7)
        self.assert_refused(NoDifference, asker.differ, (0, 1), 6)
        self.assert_refused(NoDifference, asker.differ, (1, 1, 1), 6)
        self.assert_refused(Contradiction, asker.differ, (0, 1), 5)
        self.assert_refused(Contradiction, asker.differ, (), 0)
        self.assertEqual(state(asker), kept)
        self.assertIsNone(asker.differ((1, 1, 1), 5))
        self.assertIn(((1, 1, 1), 5), asker.heard())

    def test_the_first_objection_with_the_empty_word(self):
        asker = self.shown((7, 1, (3,), (((2,),),), (1,)), 4, ())
        self.assertEqual((asker.access(), asker.tellers()), ([()], [()]))
        self.assertEqual(asker.wants(), ("show", (7, 1, (1,), (((2,),),), (3,))))

    def test_lists_are_their_askers_own(self):
        house = late(7, 2, 4)
        asker = SumAsker(7, 2, 4)
        asker.differ((1, 1, 1), 6)
        for number in range(3):
            for function in (asker.access, asker.tellers, asker.heard):
                self.assert_own_list(function)
            asker.hear(worth_by_hand(house, asker.wants()[1]))
        early = (asker.access(), asker.tellers(), asker.heard())
        counts = [len(row) for row in early]
        while asker.wants()[0] == "ask":
            asker.hear(worth_by_hand(house, asker.wants()[1]))
        self.assertEqual([len(row) for row in early], counts)

    def test_askers_keep_nothing_of_one_another(self):
        one = SumAsker(7, 2, 3)
        two = SumAsker(7, 2, 3)
        one.differ((), 5)
        self.assertEqual((two.heard(), two.access(), two.tellers()), ([], [], []))
        self.assertEqual(two.wants(), ("show", nothing(7, 2)))


if __name__ == "__main__":
    unittest.main()
