"""What an asker for a house with rooms is looked at for, whatever it is told."""

import random

from hunts import drive, scattered
from samples import TOP, random_word


class AnyAnswers:
    """Stands beside a RefusalTest; `watched` tells which asker is led."""

    watched = None

    def drive(self, letters, most, answer_for, objection_for, nagged=False):
        watched = self.watched(self, letters, most, nagged)
        drive(watched, answer_for, objection_for)
        return watched

    def test_marks_that_no_house_answers(self):
        for letters in (1, 2, 6):
            for most in (1, 2, 12):
                for kinds in (2, 3, TOP + 1):
                    self.drive(
                        letters, most, lambda word: scattered(word, kinds),
                        lambda house: (letters - 1,) * 400,
                    )

    def test_always_the_same_mark_and_always_another_one_in_objections(self):
        chance = random.Random(51)
        for letters in (1, 2, 6):
            for most in (1, 2, 6, 12):
                for mark in (0, TOP):
                    for count in (1, 5, 30, 400):
                        self.drive(
                            letters, most, lambda word: mark,
                            lambda house: random_word(chance, letters, count),
                        )

    def test_marks_by_the_count_of_letters(self):
        chance = random.Random(52)
        for letters in (1, 2, 6):
            for most in (2, 12):
                for every in (50, 97, 390, 401):
                    self.drive(
                        letters, most, lambda word: int(len(word) % every == every - 1),
                        lambda house: random_word(chance, letters, 400),
                    )

    def test_the_longest_objections(self):
        chance = random.Random(53)
        longest = 0
        for letters in (1, 2, 3):
            for rare in (7, 40, 200):
                watched = self.drive(
                    letters, 12, lambda word: int(scattered(word, rare) == 0),
                    lambda house: random_word(chance, letters, 400),
                )
                longest = max(longest, max(len(word) for word in watched.told))
        self.assertGreater(longest, 400)
        self.assertLessEqual(longest, 600)

    def test_refusals_along_the_way(self):
        chance = random.Random(54)
        for letters in (1, 2):
            for most in (1, 3):
                self.drive(
                    letters, most, lambda word: scattered(word, 2),
                    lambda house: random_word(chance, letters, 60), nagged=True,
                )
