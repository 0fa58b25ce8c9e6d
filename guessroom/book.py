"""The book: what was told of a hidden house."""

from guessroom.errors import BadMark, Contradiction
from guessroom.house import is_mark
from guessroom.words import check_word


def check_mark(mark):
    if not is_mark(mark):
        raise BadMark("a mark is from 0 to 1000000000")


class Book:
    def __init__(self, letters):
        self.letters = letters
        self.marks = {}

    def check(self, word, mark):
        check_word(self.letters, word)
        check_mark(mark)

    def put(self, word, mark):
        self.check(word, mark)
        if self.marks.get(word, mark) != mark:
            raise Contradiction("another mark was told for the word")
        self.marks[word] = mark

    def told(self, word):
        return self.marks.get(word)

    def heard(self):
        return list(self.marks.items())
