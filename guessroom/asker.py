"""The asker, which finds a hidden house by asking words and showing guesses."""

from guessroom.book import Book
from guessroom.house import mark_behind, trail
from guessroom.hunt import Hunt
from guessroom.table import cells, first_wrong, guess_of, stranger


# The word is one that the guess answers otherwise than told, with this mark. With more of it walked
# in the guess, and an access word in the place of that, the answer goes over from what was told to
# the mark, up to the last place, at which a telling word is left: halving finds such a place, and
# what lies behind it makes a row of the table strange.
def halved(book, access, guess, word, mark, last):
    rooms = trail(guess, word)
    low = 0
    high = last
    while high - low > 1:
        middle = (low + high) // 2
        asked = access[rooms[middle]] + word[middle:]
        told = book.told(asked)
        if told is None:
            return ("ask", asked)
        if told == mark:
            high = middle
        else:
            low = middle
    return ("end", word[high:])


class Asker(Hunt):
    def __init__(self, letters, most):
        Hunt.__init__(self, letters, most, Book(letters), [()], self.first_ends(letters))
        self.look_for_gaps()
        self.go_on()

    def hear(self, mark):
        self.keep_answer(mark)

    def differ(self, word, mark):
        self.keep_objection(word, mark)

    def look_for_gaps(self):
        self.ask_for(cells(self.letters, self.ways, self.ends))

    def halve(self):
        mark = self.answer(self.guess, self.wrong)
        last = len(self.wrong) - len(self.ends[0])
        found = halved(self.book, self.ways, self.guess, self.wrong, mark, last)
        if found[0] == "ask":
            return found
        self.wrong = None
        self.ends.append(found[1])
        self.look_for_gaps()
        return None

    def look_at_words(self):
        row = stranger(self.book, self.letters, self.ways, self.ends)
        if row is None:
            return self.look_at_guess()
        if len(self.ways) == self.most:
            return ("spent", row)
        self.ways.append(row)
        self.look_for_gaps()
        return None

    # What follows hangs on the kind of house that is looked for.
    def first_ends(self, letters):
        return [()]

    def answer(self, house, word):
        return mark_behind(house, word)

    def make_guess(self):
        return guess_of(self.book, self.letters, self.ways, self.ends)

    def wrong_word(self):
        return first_wrong(self.book, self.guess)
