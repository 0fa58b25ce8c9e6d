"""The asker for houses that say."""

from guessroom.asker import Asker
from guessroom.sayhouse import check_not_empty, last_said
from guessroom.table import first_unlike, marks_by_row, ways_by_marks


# The first telling words are those of one letter: so what the ways of an access word's room say
# are the first marks of its row.
class SayHunt(Asker):
    def first_ends(self, letters):
        return [(letter,) for letter in range(letters)]

    def answer(self, house, word):
        return last_said(house, word)

    def make_guess(self):
        marks = marks_by_row(self.book, self.letters, self.ways, self.ends)
        says = tuple([marks[word][:self.letters] for word in self.ways])
        return (self.letters, says, ways_by_marks(self.letters, self.ways, marks))

    def wrong_word(self):
        return first_unlike(self.book.heard(), last_said, self.guess)


class SayAsker:
    def __init__(self, letters, most):
        self.letters = letters
        self.hunt = SayHunt(letters, most)

    def wants(self):
        return self.hunt.wants()

    def hear(self, mark):
        self.hunt.hear(mark)

    def agree(self):
        self.hunt.agree()

    # Whether it is its turn comes ahead of the word, and the word ahead of its mark.
    def differ(self, word, mark):
        self.hunt.check_wants("show")
        check_not_empty(word)
        self.hunt.differ(word, mark)

    def access(self):
        return self.hunt.access()

    def tellers(self):
        return self.hunt.tellers()

    def heard(self):
        return self.hunt.heard()
