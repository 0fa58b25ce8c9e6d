"""[0.2], [0.5], [4.1] and the interface's guessroom/book.py."""

import unittest

from guessroom.book import Book
from guessroom.errors import BadMark, BadWord, Contradiction
from refusals import RefusalTest
from samples import FAR, TOP, words_by_hand, wrong_words

WRONG_MARKS = (-1, TOP + 1, -FAR, FAR)


class BookTest(RefusalTest):
    def test_an_empty_book(self):
        for letters in (1, 6):
            book = Book(letters)
            self.assertEqual(book.heard(), [])
            self.assertIsNone(book.told(()))
            self.assertIsNone(book.told((0,)))

    def test_what_is_put_is_told(self):
        book = Book(2)
        self.assertIsNone(book.put((1, 0), 7))
        self.assertEqual(book.told((1, 0)), 7)
        self.assertIsNone(book.told((1,)))
        self.assertIsNone(book.told(()))
        self.assertIsNone(book.told((0, 1)))

    def test_a_mark_of_nought_is_told(self):
        book = Book(1)
        book.put((), 0)
        self.assertEqual(book.told(()), 0)
        self.assertIsNotNone(book.told(()))
        self.assertEqual(book.heard(), [((), 0)])
        self.assert_refused(Contradiction, book.put, (), 1)

    def test_the_order_of_telling(self):
        book = Book(6)
        words = list(reversed(words_by_hand(6, 2)))
        for place, word in enumerate(words):
            book.put(word, place)
        self.assertEqual(book.heard(), [(word, place) for place, word in enumerate(words)])
        self.assertEqual([type(pair) for pair in book.heard()], [tuple] * len(words))

    def test_the_same_mark_again_does_nothing(self):
        book = Book(2)
        book.put((1,), 0)
        book.put((), TOP)
        book.put((0,), 3)
        kept = book.heard()
        for word, mark in (((1,), 0), ((0,), 3), ((), TOP), ((1,), 0)):
            self.assertIsNone(book.put(word, mark))
            self.assertEqual(book.heard(), kept)

    def test_another_mark(self):
        book = Book(2)
        book.put((1,), 0)
        book.put((), TOP)
        kept = book.heard()
        for word, mark in (((1,), 1), ((1,), TOP), ((), 0), ((), TOP - 1)):
            self.assert_refused(Contradiction, book.put, word, mark)
            self.assertEqual(book.heard(), kept)
        book.put((0,), 5)
        self.assertEqual(book.heard(), [((1,), 0), ((), TOP), ((0,), 5)])

    def test_long_words(self):
        book = Book(6)
        for count in (399, 400, 600, 620):
            book.put((5,) * count, count)
        for count in (399, 400, 600, 620):
            self.assertEqual(book.told((5,) * count), count)
        self.assertIsNone(book.told((5,) * 401))

    def test_least_and_greatest_mark(self):
        book = Book(1)
        book.put((), 0)
        book.put((0,), TOP)
        self.assertEqual(book.heard(), [((), 0), ((0,), TOP)])

    def test_numbers_that_are_no_letters(self):
        for letters in range(1, 7):
            book = Book(letters)
            book.put((0,), 4)
            for word in wrong_words(letters):
                self.assert_refused(BadWord, book.put, word, 4)
                self.assertIsNone(book.told(word))
            self.assertEqual(book.heard(), [((0,), 4)])

    def test_marks_out_of_bounds(self):
        book = Book(2)
        book.put((0,), 4)
        for mark in WRONG_MARKS:
            self.assert_refused(BadMark, book.put, (), mark)
            self.assert_refused(BadMark, book.put, (1,) * 400, mark)
            self.assertIsNone(book.told(()))
        self.assertEqual(book.heard(), [((0,), 4)])
        book.put((), 5)
        self.assertEqual(book.heard(), [((0,), 4), ((), 5)])

    def test_the_order_of_the_refusals(self):
        book = Book(2)
        book.put((0,), 4)
        for mark in WRONG_MARKS:
            for word in wrong_words(2):
                self.assert_refused(BadWord, book.put, word, mark)
            self.assert_refused(BadMark, book.put, (0,), mark)
        self.assert_refused(Contradiction, book.put, (0,), 5)
        self.assertEqual(book.heard(), [((0,), 4)])

    def test_books_keep_nothing_of_one_another(self):
        one = Book(2)
        other = Book(2)
        one.put((0,), 4)
        self.assertEqual(other.heard(), [])
        other.put((0,), 5)
        self.assertEqual(one.heard(), [((0,), 4)])

    def test_lists_are_their_askers_own(self):
        book = Book(2)
        book.put((0,), 4)
        self.assert_own_list(book.heard)
        early = book.heard()
        book.put((1,), 5)
        self.assertEqual(early, [((0,), 4)])
        self.assertEqual(book.told((0,)), 4)


if __name__ == "__main__":
    unittest.main()
