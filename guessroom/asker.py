"""The asker, which finds a hidden house by asking words and showing guesses."""

from guessroom.book import Book, check_mark
from guessroom.errors import NoDifference, OutOfTurn
from guessroom.house import mark_behind, trail
from guessroom.table import cells, first_wrong, guess_of, stranger
from guessroom.words import check_word


# The word is one that the guess answers otherwise than told, with this mark. With more of it walked
# in the guess, and an access word in the place of that, the answer goes over from what was told to
# the mark, up to the last place, at which a telling word is left: halving finds such a place, and
# what lies behind it makes a row of the table strange.
def halved(book, access, guess, word, mark, last):
    rooms = trail(guess, word)
    low = 0
    high = last
    while high - low > 1:
        middle = (low + high) // 2
        asked = access[rooms[middle]] + word[middle:]
        told = book.told(asked)
        if told is None:
            return ("ask", asked)
        if told == mark:
            high = middle
        else:
            low = middle
    return ("end", word[high:])


class Asker:
    def __init__(self, letters, most):
        self.letters = letters
        self.most = most
        self.book = Book(letters)
        self.ways = [()]
        self.ends = self.first_ends()
        self.gaps = []
        self.guess = None
        self.wrong = None
        self.wish = None
        self.look_for_gaps()
        self.go_on()

    def wants(self):
        return self.wish

    def hear(self, mark):
        self.check_wants("ask")
        self.book.put(self.wish[1], mark)
        self.go_on()

    def agree(self):
        self.check_wants("show")
        self.wish = ("done", self.wish[1])

    def differ(self, word, mark):
        self.check_wants("show")
        check_word(self.letters, word)
        check_mark(mark)
        if self.answer(self.wish[1], word) == mark:
            raise NoDifference("the house shown answers so")
        self.book.put(word, mark)
        self.go_on()

    def access(self):
        return list(self.ways)

    def tellers(self):
        return list(self.ends)

    def heard(self):
        return self.book.heard()

    def check_wants(self, deed):
        if self.wish[0] != deed:
            raise OutOfTurn("the asker wants something else")

    def go_on(self):
        self.wish = self.next_wish()
        while self.wish is None:
            self.wish = self.next_wish()

    # None where this step asks for nothing by itself, and the next one is to be taken.
    def next_wish(self):
        if len(self.gaps) > 0:
            return ("ask", self.gaps.pop(0))
        if self.wrong is not None:
            return self.halve()
        row = stranger(self.book, self.letters, self.ways, self.ends)
        if row is not None:
            return self.take_in(row)
        return self.look_at_guess()

    def halve(self):
        mark = self.answer(self.guess, self.wrong)
        last = len(self.wrong) - len(self.ends[0])
        found = halved(self.book, self.ways, self.guess, self.wrong, mark, last)
        if found[0] == "ask":
            return found
        self.wrong = None
        self.ends.append(found[1])
        self.look_for_gaps()
        return None

    def take_in(self, row):
        if len(self.ways) == self.most:
            return ("spent", row)
        self.ways.append(row)
        self.look_for_gaps()
        return None

    def look_at_guess(self):
        self.guess = self.make_guess()
        self.wrong = self.wrong_word()
        if self.wrong is None:
            return ("show", self.guess)
        return None

    # Nothing but these words is told until the last of them is: so they stay gaps until asked.
    def look_for_gaps(self):
        words = cells(self.letters, self.ways, self.ends)
        self.gaps = [word for word in words if self.book.told(word) is None]

    # What follows hangs on the kind of house that is looked for.
    def first_ends(self):
        return [()]

    def answer(self, house, word):
        return mark_behind(house, word)

    def make_guess(self):
        return guess_of(self.book, self.letters, self.ways, self.ends)

    def wrong_word(self):
        return first_wrong(self.book, self.guess)
