"""[0.3], [0.4], [1.1] and the interface's guessroom/words.py."""

import unittest

from guessroom.errors import BadWord
from guessroom.words import is_word, less, next_word, place_of, word_at, words_to
from samples import FAR, words_by_hand


def long_words(letters):
    """Words of 400 letters and more: the least ones, the greatest ones and mixed ones."""
    top = letters - 1
    words = []
    for count in (399, 400, 401, 600):
        words.append((0,) * count)
        words.append((top,) * count)
        words.append((top,) + (0,) * (count - 1))
        words.append((0,) * (count - 1) + (top,))
        words.append(tuple((i * i + i // 7) % letters for i in range(count)))
    return words


def wrong_words(letters):
    """Words with a number that is no letter at the first, a middle and the last place."""
    for wrong in (-1, -letters, letters, letters + 1, -FAR, FAR):
        yield (wrong,)
        yield (wrong,) + (0,) * 4
        yield (0,) * 2 + (wrong,) + (0,) * 2
        yield (0,) * 4 + (wrong,)
        yield (0,) * 400 + (wrong,)
        yield (wrong,) + (0,) * 400


class IsWordTest(unittest.TestCase):
    def test_words(self):
        for letters in range(1, 7):
            for word in words_by_hand(letters, 3) + long_words(letters):
                self.assertIs(is_word(letters, word), True)

    def test_the_empty_word(self):
        for letters in (1, 6):
            self.assertIs(is_word(letters, ()), True)

    def test_wrong_words(self):
        for letters in range(1, 7):
            for word in wrong_words(letters):
                self.assertIs(is_word(letters, word), False, (letters, word))

    def test_the_count_of_letters_is_no_letter(self):
        self.assertIs(is_word(1, (0,)), True)
        self.assertIs(is_word(1, (1,)), False)
        self.assertIs(is_word(6, (5,)), True)
        self.assertIs(is_word(6, (6,)), False)


class LessTest(unittest.TestCase):
    def test_the_order_both_ways_and_of_a_word_with_itself(self):
        for letters, most in ((1, 6), (2, 4), (3, 3), (6, 2)):
            words = words_by_hand(letters, most)
            for i, word in enumerate(words):
                for j, other in enumerate(words):
                    self.assertIs(less(word, other), i < j, (word, other))

    def test_fewer_letters_come_first_whatever_they_are(self):
        self.assertIs(less((5,), (0, 0)), True)
        self.assertIs(less((0, 0), (5,)), False)
        self.assertIs(less((), (0,)), True)
        self.assertIs(less((0,), ()), False)
        self.assertIs(less((), ()), False)

    def test_the_first_place_at_which_they_differ(self):
        self.assertIs(less((1, 0, 5), (1, 1, 0)), True)
        self.assertIs(less((1, 1, 0), (1, 0, 5)), False)

    def test_long_words(self):
        self.assertIs(less((0,) * 400 + (1,), (0,) * 400 + (2,)), True)
        self.assertIs(less((0,) * 400 + (2,), (0,) * 400 + (1,)), False)
        self.assertIs(less((5,) * 400, (0,) * 401), True)
        self.assertIs(less((0,) * 401, (5,) * 400), False)
        self.assertIs(less((3,) * 600, (3,) * 600), False)
        self.assertIs(less((1,) + (0,) * 599, (0,) + (5,) * 599), False)


class NextWordTest(unittest.TestCase):
    def test_each_word_of_the_order(self):
        for letters in range(1, 7):
            words = words_by_hand(letters, 4)
            for word, behind in zip(words, words[1:]):
                self.assertEqual(next_word(letters, word), behind)

    def test_the_empty_word(self):
        self.assertEqual(next_word(1, ()), (0,))
        self.assertEqual(next_word(6, ()), (0,))

    def test_the_greatest_letter_at_the_end(self):
        self.assertEqual(next_word(3, (0, 2)), (1, 0))
        self.assertEqual(next_word(3, (0, 1, 2, 2)), (0, 2, 0, 0))
        self.assertEqual(next_word(6, (5, 4, 5)), (5, 5, 0))

    def test_all_letters_the_greatest(self):
        self.assertEqual(next_word(1, (0, 0, 0)), (0, 0, 0, 0))
        self.assertEqual(next_word(2, (1,)), (0, 0))
        self.assertEqual(next_word(6, (5, 5)), (0, 0, 0))

    def test_long_words(self):
        self.assertEqual(next_word(1, (0,) * 600), (0,) * 601)
        self.assertEqual(next_word(6, (5,) * 400), (0,) * 401)
        self.assertEqual(next_word(6, (0,) + (5,) * 400), (1,) + (0,) * 400)
        self.assertEqual(next_word(6, (3,) * 400 + (4,)), (3,) * 400 + (5,))

    def test_wrong_words(self):
        for letters in range(1, 7):
            for word in wrong_words(letters):
                with self.assertRaises(BadWord):
                    next_word(letters, word)


class PlaceTest(unittest.TestCase):
    def test_each_word_of_the_order(self):
        for letters in range(1, 7):
            for place, word in enumerate(words_by_hand(letters, 4)):
                self.assertEqual(place_of(letters, word), place)
                self.assertEqual(word_at(letters, place), word)

    def test_the_first_place_is_that_of_the_empty_word(self):
        for letters in range(1, 7):
            self.assertEqual(place_of(letters, ()), 0)
            self.assertEqual(word_at(letters, 0), ())

    def test_with_one_letter_the_place_is_the_count(self):
        for count in (0, 1, 2, 17, 399, 400, 401, 600):
            self.assertEqual(place_of(1, (0,) * count), count)
            self.assertEqual(word_at(1, count), (0,) * count)

    def test_there_and_back(self):
        for letters in range(1, 7):
            for word in long_words(letters):
                self.assertEqual(word_at(letters, place_of(letters, word)), word)

    def test_back_and_there(self):
        for letters in range(2, 7):
            for count in (1, 2, 9, 100, 399, 400):
                for place in (letters ** count - 1, letters ** count, letters ** count + 1):
                    self.assertEqual(place_of(letters, word_at(letters, place)), place)

    def test_the_place_is_how_many_words_come_ahead(self):
        for letters in range(2, 7):
            shorter = sum(letters ** count for count in range(400))
            self.assertEqual(place_of(letters, (0,) * 400), shorter)
            self.assertEqual(place_of(letters, (letters - 1,) * 399), shorter - 1)
            self.assertEqual(word_at(letters, shorter), (0,) * 400)
            self.assertEqual(word_at(letters, shorter - 1), (letters - 1,) * 399)

    def test_the_next_word_has_the_next_place(self):
        for letters in range(1, 7):
            for word in long_words(letters):
                behind = place_of(letters, next_word(letters, word))
                self.assertEqual(behind, place_of(letters, word) + 1)

    def test_wrong_words(self):
        for letters in range(1, 7):
            for word in wrong_words(letters):
                with self.assertRaises(BadWord):
                    place_of(letters, word)

    def test_places_below_nought(self):
        for letters in range(1, 7):
            for place in (-1, -2, -letters, -FAR):
                with self.assertRaises(BadWord):
                    word_at(letters, place)


class WordsToTest(unittest.TestCase):
    def test_most_nought(self):
        for letters in range(1, 7):
            self.assertEqual(words_to(letters, 0), [()])

    def test_one_letter(self):
        self.assertEqual(words_to(1, 1), [(), (0,)])
        self.assertEqual(words_to(1, 8), [(0,) * count for count in range(9)])

    def test_several_letters(self):
        self.assertEqual(words_to(2, 2), [(), (0,), (1,), (0, 0), (0, 1), (1, 0), (1, 1)])
        self.assertEqual(words_to(3, 1), [(), (0,), (1,), (2,)])
        for letters, most in ((2, 8), (3, 6), (4, 5), (5, 4), (6, 4)):
            self.assertEqual(words_to(letters, most), words_by_hand(letters, most))

    def test_the_list_is_its_askers_own(self):
        told = words_to(2, 2)
        told.append("more")
        told[0] = None
        self.assertEqual(words_to(2, 2), words_by_hand(2, 2))


if __name__ == "__main__":
    unittest.main()
