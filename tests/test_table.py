"""[0.2], [4.2], [4.3] and the interface's guessroom/table.py."""

import copy
import random
import unittest

from guessroom.book import Book
from guessroom.table import cells, first_wrong, gap, guess_of, marks_of, rows_of, stranger
from refusals import RefusalTest
from samples import (
    TOP, answer, chain, least_words_in, random_house, random_houses, random_word, ring,
)

ACCESS = [(), (1,), (1, 0)]
ENDS = [(), (0,), (1, 1)]
THREE = (2, (5, 0, 9), ((1, 2), (2, 1), (0, 1)))


def book_of(house, words):
    book = Book(house[0])
    for word in words:
        book.put(word, answer(house, word))
    return book


def table_by_hand(letters, access, ends):
    """The rows and the cells as [4.2] tells them."""
    rows = list(access)
    for word in access:
        for letter in range(letters):
            if word + (letter,) not in rows:
                rows.append(word + (letter,))
    words = []
    for row in rows:
        for end in ends:
            if row + end not in words:
                words.append(row + end)
    return rows, words


def full_book(house, access, ends):
    return book_of(house, table_by_hand(house[0], access, ends)[1])


class RowsTest(RefusalTest):
    def test_by_hand(self):
        self.assertEqual(rows_of(2, [()]), [(), (0,), (1,)])
        self.assertEqual(
            rows_of(2, ACCESS), [(), (1,), (1, 0), (0,), (1, 1), (1, 0, 0), (1, 0, 1)]
        )
        self.assertEqual(rows_of(1, [(), (0,), (0, 0)]), [(), (0,), (0, 0), (0, 0, 0)])
        self.assertEqual(rows_of(6, [()]), [()] + [(letter,) for letter in range(6)])

    def test_access_words_in_their_own_order(self):
        self.assertEqual(
            rows_of(2, [(), (1,), (0,)]),
            [(), (1,), (0,), (1, 0), (1, 1), (0, 0), (0, 1)],
        )

    def test_cells_by_hand(self):
        self.assertEqual(cells(2, [()], [()]), [(), (0,), (1,)])
        self.assertEqual(cells(1, [()], [(), (0,)]), [(), (0,), (0, 0)])
        self.assertEqual(
            cells(2, [(), (1,)], [(), (1, 1), (0,)]),
            [
                (), (1, 1), (0,), (1,), (1, 1, 1), (1, 0), (0, 1, 1), (0, 0),
                (1, 0, 1, 1), (1, 0, 0), (1, 1, 1, 1), (1, 1, 0),
            ],
        )

    def test_other_tables(self):
        chance = random.Random(31)
        for letters in (1, 2, 6):
            for count in (1, 2, 12):
                access = list(least_words_in(random_house(chance, letters, count)).values())
                chance.shuffle(access)
                access.sort(key=len)
                ends = [()]
                while len(ends) < count:
                    word = random_word(chance, letters, chance.randint(1, 400))
                    if word not in ends:
                        ends.append(word)
                rows, words = table_by_hand(letters, access, ends)
                self.assertEqual(rows_of(letters, access), rows)
                self.assertEqual(cells(letters, access, ends), words)

    def test_lists_are_their_askers_own(self):
        access = list(ACCESS)
        ends = list(ENDS)
        self.assert_own_list(rows_of, 2, access)
        self.assert_own_list(cells, 2, access, ends)
        self.assertEqual((access, ends), (ACCESS, ENDS))
        told = rows_of(2, access)
        access.clear()
        self.assertEqual(len(told), 7)


class GapTest(RefusalTest):
    def test_an_empty_book(self):
        for letters in (1, 2, 6):
            self.assertEqual(gap(Book(letters), letters, [()], [()]), ())

    def test_each_cell_alone_lacking(self):
        words = table_by_hand(2, ACCESS, ENDS)[1]
        for lacking in words:
            book = book_of(THREE, [word for word in words if word != lacking])
            self.assertEqual(gap(book, 2, ACCESS, ENDS), lacking)

    def test_the_first_of_several(self):
        words = table_by_hand(2, ACCESS, ENDS)[1]
        for count in range(len(words)):
            book = book_of(THREE, words[:count])
            self.assertEqual(gap(book, 2, ACCESS, ENDS), words[count])
            book = book_of(THREE, words[count + 1:] + words[:count])
            self.assertEqual(gap(book, 2, ACCESS, ENDS), words[count])

    def test_none(self):
        self.assertIsNone(gap(full_book(THREE, ACCESS, ENDS), 2, ACCESS, ENDS))

    def test_a_mark_of_nought_is_no_gap(self):
        house = (1, (0,), ((0,),))
        self.assertIsNone(gap(full_book(house, [()], [()]), 1, [()], [()]))

    def test_marks_of_a_row(self):
        book = book_of(THREE, [(1,), (1, 0), (1, 1, 1)])
        self.assertEqual(marks_of(book, (1,), ENDS), [9, 5, 0])
        self.assertEqual(marks_of(book, (), ENDS), [None, None, None])
        self.assertEqual(marks_of(book, (1,), [(), (1,), (0,)]), [9, None, 5])
        self.assertEqual(marks_of(book, (1,), []), [])
        self.assert_own_list(marks_of, book, (1,), ENDS)

    def test_least_and_greatest_mark(self):
        book = book_of((1, (0, TOP), ((1,), (0,))), [(), (0,)])
        self.assertEqual(marks_of(book, (), [(), (0,), (0, 0)]), [0, TOP, None])


class StrangerTest(unittest.TestCase):
    def told(self, house, access, ends):
        return stranger(full_book(house, access, ends), house[0], access, ends)

    def test_by_hand(self):
        self.assertEqual(self.told(THREE, [()], [()]), (0,))
        self.assertEqual(self.told(THREE, [(), (0,)], [()]), (1,))
        self.assertIsNone(self.told(THREE, [(), (0,), (1,)], [()]))

    def test_one_room(self):
        for letters in (1, 6):
            self.assertIsNone(self.told((letters, (0,), ((0,) * letters,)), [()], [()]))

    def test_it_hangs_on_the_telling_words(self):
        house = chain(2, 4)
        self.assertIsNone(self.told(house, [()], [()]))
        self.assertIsNone(self.told(house, [()], [(), (1,)]))
        self.assertEqual(self.told(house, [()], [(), (1, 1)]), (1,))
        self.assertEqual(self.told(house, [(), (1,)], [(), (1, 1), (1,)]), (1, 1))
        self.assertEqual(self.told(house, [(), (1,), (1, 1)], [(), (1, 1), (1,)]), (1, 1, 1))

    def test_each_mark_of_the_row_counts(self):
        for place in range(3):
            book = Book(1)
            marks = [4, 4, 4]
            marks[place] = 5
            # The row () has the marks 4, 4, 4 behind the telling words, and the row (0,) these.
            ends = [(), (0, 0), (0, 0, 0, 0)]
            for end, mark in zip(ends, marks):
                book.put(end, 4)
                book.put((0,) + end, mark)
            self.assertEqual(stranger(book, 1, [()], ends), (0,))

    def test_marks_in_another_order_are_other_marks(self):
        book = Book(1)
        for word, mark in (((), 1), ((0, 0), 2), ((0,), 2), ((0, 0, 0), 1)):
            book.put(word, mark)
        self.assertEqual(stranger(book, 1, [()], [(), (0, 0)]), (0,))

    def test_other_houses(self):
        for house in random_houses(32, 60, marks=(0, 1, TOP)):
            ways = list(least_words_in(house).values())
            access = ways[:2]
            ends = [(), (0,), (house[0] - 1, 0)]
            rows = table_by_hand(house[0], access, ends)[0]
            marks = [[answer(house, row + end) for end in ends] for row in rows]
            due = None
            for row, some in zip(rows, marks):
                if due is None and some not in marks[:len(access)]:
                    due = row
            self.assertEqual(self.told(house, access, ends), due)


class GuessTest(unittest.TestCase):
    def told(self, house, access, ends):
        return guess_of(full_book(house, access, ends), house[0], access, ends)

    def test_one_room(self):
        for letters in (1, 6):
            for mark in (0, TOP):
                house = (letters, (mark,), ((0,) * letters,))
                self.assertEqual(self.told(house, [()], [()]), house)

    def test_by_hand(self):
        self.assertEqual(self.told(THREE, [(), (0,), (1,)], [()]), THREE)
        other = (2, (5, 9, 0), ((2, 1), (0, 2), (1, 2)))
        self.assertEqual(self.told(THREE, [(), (1,), (0,)], [()]), other)

    def test_a_guess_that_is_not_the_house(self):
        self.assertEqual(self.told(chain(2, 4), [()], [()]), (2, (0,), ((0, 0),)))

    def test_marks_are_those_of_the_access_words(self):
        house = chain(1, 4, (3, 3, 3, 8))
        access = [(), (0,), (0, 0), (0, 0, 0)]
        self.assertEqual(self.told(house, access, [(), (0, 0), (0,)]), house)

    def test_whole_houses(self):
        for house in (chain(1, 12), chain(6, 12), ring(6, 12, range(12)), ring(1, 12, range(12))):
            access = list(least_words_in(house).values())
            ends = [(house[0] - 1,) * count for count in range(12)]
            self.assertEqual(self.told(house, access, ends), house)

    def test_nothing_handed_in_is_changed(self):
        access = [(), (0,), (1,)]
        ends = [(), (0, 0)]
        book = full_book(THREE, access, ends)
        kept = copy.deepcopy((access, ends, book.heard()))
        gap(book, 2, access, ends)
        marks_of(book, (0,), ends)
        stranger(book, 2, access, ends)
        guess = guess_of(book, 2, access, ends)
        first_wrong(book, THREE)
        self.assertEqual((access, ends, book.heard()), kept)
        access.clear()
        ends.clear()
        self.assertEqual(guess, THREE)


class FirstWrongTest(unittest.TestCase):
    def test_an_empty_book(self):
        self.assertIsNone(first_wrong(Book(2), THREE))

    def test_none(self):
        words = [(1,) * 400, (0, 1), (), (1,)]
        self.assertIsNone(first_wrong(book_of(THREE, words), THREE))

    def test_the_first_in_the_order_of_telling(self):
        words = [(1,) * 600, (0, 1), (), (1,)]
        for wrong in range(4):
            for behind in (False, True):
                book = Book(2)
                for place, word in enumerate(words):
                    off = place == wrong or behind and place > wrong
                    book.put(word, answer(THREE, word) + off)
                self.assertEqual(first_wrong(book, THREE), words[wrong])

    def test_the_empty_word(self):
        book = Book(1)
        book.put((), TOP)
        self.assertEqual(first_wrong(book, (1, (0,), ((0,),))), ())
        self.assertIsNone(first_wrong(book, (1, (TOP,), ((0,),))))


if __name__ == "__main__":
    unittest.main()
