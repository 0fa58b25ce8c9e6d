"""What askers share: their turns, and those for one hidden house their book and their words."""

from guessroom.errors import NoDifference, OutOfTurn


# A kind of asker stands under this class and tells besides what it wants next (next_wish), or
# None where it took a step by itself and another is to be taken.
class Turns:
    def __init__(self):
        self.wish = None

    def wants(self):
        return self.wish

    def check_wants(self, deed):
        if self.wish[0] != deed:
            raise OutOfTurn("the asker wants something else")

    def go_on(self):
        self.wish = self.next_wish()
        while self.wish is None:
            self.wish = self.next_wish()


# A kind of asker stands under this class and tells besides: answer (what a house answers for a
# word), make_guess (the house that its words make), wrong_word (the first word told that the
# guess answers otherwise), look_at_words (the next step where no word told is wrong) and halve
# (the next step where one is). A step tells what next_wish is to tell.
class Hunt(Turns):
    def __init__(self, letters, most, book, ways, ends):
        Turns.__init__(self)
        self.letters = letters
        self.most = most
        self.book = book
        self.ways = ways
        self.ends = ends
        self.gaps = []
        self.guess = None
        self.wrong = None

    def keep_answer(self, number):
        self.check_wants("ask")
        self.book.put(self.wish[1], number)
        self.go_on()

    def agree(self):
        self.check_wants("show")
        self.wish = ("done", self.wish[1])

    def keep_objection(self, word, number):
        self.check_wants("show")
        self.book.check(word, number)
        if self.answer(self.wish[1], word) == number:
            raise NoDifference("the house shown answers so")
        self.book.put(word, number)
        self.go_on()

    def access(self):
        return list(self.ways)

    def tellers(self):
        return list(self.ends)

    def heard(self):
        return self.book.heard()

    def next_wish(self):
        if len(self.gaps) > 0:
            return ("ask", self.gaps.pop(0))
        if self.wrong is not None:
            return self.halve()
        return self.look_at_words()

    # Nothing but these words is told until the last of them is: so they stay gaps until asked.
    def ask_for(self, words):
        left = {}
        for word in words:
            if self.book.told(word) is None:
                left[word] = True
        self.gaps = list(left)

    def look_at_guess(self):
        self.guess = self.make_guess()
        self.wrong = self.wrong_word()
        if self.wrong is None:
            return ("show", self.guess)
        return None
