"""The sum asker, which finds a hidden sum house by asking words and showing guesses."""

from guessroom.book import Book
from guessroom.errors import BadMark
from guessroom.field import product
from guessroom.hunt import Hunt
from guessroom.sumhouse import is_number, rows_along, worth
from guessroom.sumtable import sum_guess
from guessroom.table import cells
from guessroom.words import check_word


class SumBook(Book):
    def __init__(self, p, letters):
        Book.__init__(self, letters)
        self.p = p

    def check(self, word, mark):
        check_word(self.letters, word)
        if not is_number(self.p, mark):
            raise BadMark("a number is from 0 to p - 1")


# Many words told end alike, so what the tables make of the last row along their ends is kept.
def first_other_worth(house, heard):
    columns = {(): house[4]}
    for word, number in heard:
        place = 0
        while word[place:] not in columns:
            place += 1
        for at in range(place - 1, -1, -1):
            behind = columns[word[at + 1:]]
            columns[word[at:]] = tuple([product(house[0], row, behind) for row in house[3][word[at]]])
        if product(house[0], house[2], columns[word]) != number:
            return word
    return None


# The word is one that the guess tells otherwise than it was told. With more of it walked in the
# guess, the sum of the access words' numbers with the rest behind them, with the guess's row as
# factors, goes over from what was told to what the guess tells: halving finds such a place.
def halved_sums(book, access, guess, word):
    rows = rows_along(guess, word)
    goal = product(book.p, guess[4], rows[-1])
    low = 0
    high = len(word)
    while high - low > 1:
        middle = (low + high) // 2
        words = [way + word[middle:] for way in access]
        numbers = [book.told(asked) for asked in words]
        if None in numbers:
            return ("ask", words)
        if product(book.p, rows[middle], numbers) == goal:
            high = middle
        else:
            low = middle
    return ("place", low)


# The first access word whose number, with the word from the place on behind it, is not made of
# the access words' numbers behind the place's letter as the guess's table makes it. At the word's
# begin only that of the empty word was asked for, and then it is this one.
def new_access(book, access, guess, word, place):
    table = guess[3][word[place]]
    numbers = [book.told(way + word[place + 1:]) for way in access]
    for way, row in zip(access, table):
        if book.told(way + word[place:]) != product(book.p, row, numbers):
            return way + (word[place],)
    return None


class SumAsker(Hunt):
    def __init__(self, p, letters, most):
        Hunt.__init__(self, letters, most, SumBook(p, letters), [], [])
        self.p = p
        self.go_on()

    def hear(self, number):
        self.keep_answer(number)

    def differ(self, word, number):
        self.keep_objection(word, number)

    def answer(self, house, word):
        return worth(house, word)

    def make_guess(self):
        return sum_guess(self.p, self.letters, self.ways, self.ends, dict(self.book.heard()))

    def wrong_word(self):
        return first_other_worth(self.guess, self.book.heard())

    def look_at_words(self):
        return self.look_at_guess()

    def halve(self):
        word = self.wrong
        if len(self.ways) == 0:
            return self.take_in((), word)
        found = halved_sums(self.book, self.ways, self.guess, word)
        if found[0] == "ask":
            self.ask_for(found[1])
            return None
        place = found[1]
        return self.take_in(new_access(self.book, self.ways, self.guess, word, place), word[place + 1:])

    # Where there are too many access words nothing is left to ask: the rows were told in halving.
    def take_in(self, way, end):
        self.wrong = None
        self.ends.append(end)
        if len(self.ways) == self.most:
            return ("spent", way)
        self.ways.append(way)
        self.ask_for(self.ways + cells(self.letters, self.ways, self.ends))
        return None
