"""The asker that asks alone: it shows nothing, and tries its guesses with words of its own."""

from guessroom.asker import Asker
from guessroom.book import Book
from guessroom.house import mark_behind
from guessroom.hunt import Turns
from guessroom.suite import slim
from guessroom.table import first_wrong


# trials has the words that are still to be asked of the house that the Asker shows, and is None
# as long as this house was not looked at.
class LoneAsker(Turns):
    def __init__(self, letters, most):
        Turns.__init__(self)
        self.most = most
        self.book = Book(letters)
        self.hunt = Asker(letters, most)
        self.trials = None
        self.go_on()

    def hear(self, mark):
        self.check_wants("ask")
        word = self.wish[1]
        self.book.put(word, mark)
        if self.trials is not None and mark_behind(self.hunt.wants()[1], word) != mark:
            self.object_with(word)
        self.go_on()

    def heard(self):
        return self.book.heard()

    def object_with(self, word):
        self.trials = None
        self.hunt.differ(word, self.book.told(word))

    def next_wish(self):
        wish = self.hunt.wants()
        if wish[0] == "ask":
            return self.answer_or_ask(wish[1])
        if wish[0] == "show":
            return self.try_out(wish[1])
        return wish

    def answer_or_ask(self, word):
        mark = self.book.told(word)
        if mark is None:
            return ("ask", word)
        self.hunt.hear(mark)
        return None

    def try_out(self, house):
        if self.trials is None:
            wrong = first_wrong(self.book, house)
            if wrong is not None:
                self.object_with(wrong)
                return None
            words = slim(house, self.most - len(house[1]))
            self.trials = [word for word in words if self.book.told(word) is None]
        if len(self.trials) > 0:
            return ("ask", self.trials.pop(0))
        return ("done", house)
