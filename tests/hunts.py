"""Hunts: an asker that is led from its first word to its end, and looked at after each deed."""

import zlib

from guessroom.asker import Asker
from guessroom.errors import BadMark, BadWord, Contradiction, NoDifference, OutOfTurn
from guessroom.sayasker import SayAsker
from guessroom.telling import difference
from samples import FAR, TOP, answer, say_answer

WRONG_MARKS = (-1, TOP + 1, -FAR, FAR)


def state(asker):
    return (asker.wants(), asker.access(), asker.tellers(), asker.heard(), asker.letters)


class Watched:
    """An Asker of which each promise that holds whatever it is told is looked at.

    Another one is told the same, without the refused deeds in between: so what is refused is
    seen to change nothing, and what is wanted to hang on what was told alone."""

    def __init__(self, test, letters, most, nagged=False):
        self.test = test
        self.letters = letters
        self.most = most
        self.nagged = nagged
        self.asker = self.make()
        self.twin = self.make()
        self.told = {}
        self.asked = 0
        self.shown = []
        self.last_words = self.first_words()
        self.look()

    # What follows up to bound hangs on the kind of house that is looked for.
    marks_taken = (0, TOP)
    marks_refused = WRONG_MARKS
    # How many houses are shown ahead of the first access word.
    shown_ahead = 0

    def make(self):
        return Asker(self.letters, self.most)

    def first_words(self):
        return [()], [()]

    def answer(self, house, word):
        return answer(house, word)

    def marks_of_room(self, word):
        return self.told[word]

    def bound(self, count):
        return (1 + count * self.letters) * count + 10 * (count - 1)

    def wish(self):
        return self.asker.wants()

    def ended(self):
        return self.wish()[0] in ("done", "spent")

    def hear(self, mark):
        self.told[self.wish()[1]] = mark
        self.asked += 1
        self.test.assertIsNone(self.asker.hear(mark))
        self.twin.hear(mark)
        self.look()

    def agree(self):
        house = self.wish()[1]
        self.test.assertIsNone(self.asker.agree())
        self.twin.agree()
        self.test.assertEqual(self.wish(), ("done", house))
        self.look()

    def differ(self, word, mark):
        self.told[word] = mark
        self.test.assertIsNone(self.asker.differ(word, mark))
        self.twin.differ(word, mark)
        self.look()

    def look(self):
        test = self.test
        wish = self.wish()
        test.assertIs(type(wish), tuple)
        test.assertEqual(len(wish), 2)
        test.assertEqual(self.asker.heard(), list(self.told.items()))
        test.assertEqual(self.asker.letters, self.letters)
        if self.nagged:
            self.nag()
        test.assertEqual(state(self.asker), state(self.asker))
        test.assertEqual(wish, self.twin.wants())
        self.look_at_words()
        if wish[0] == "ask":
            self.look_at_asking(wish[1])
            return
        test.assertIn(wish[0], ("show", "done", "spent"))
        test.assertEqual(state(self.asker), state(self.twin))
        self.look_at_table()
        if wish[0] == "spent":
            self.look_at_spent(wish[1])
        else:
            self.look_at_house(wish[1])
        if wish[0] == "show":
            if self.shown:
                test.assertGreater(len(self.asker.access()), len(self.last_words[0]))
            self.shown.append(wish[1])
        self.last_words = (self.asker.access(), self.asker.tellers())

    def look_at_words(self):
        test = self.test
        access = self.asker.access()
        ends = self.asker.tellers()
        test.assertIn(access[:1], ([()], self.first_words()[0]))
        for place, word in enumerate(access[1:], 1):
            test.assertIn(word[:-1], access[:place])
            test.assertIn(word[-1], range(self.letters))
        test.assertEqual(len(set(access)), len(access))
        test.assertLessEqual(len(access), self.most)
        test.assertEqual(len(set(ends)), len(ends))
        test.assertEqual(access[:len(self.last_words[0])], self.last_words[0])
        test.assertEqual(ends[:len(self.last_words[1])], self.last_words[1])

    def look_at_asking(self, word):
        test = self.test
        test.assertIs(type(word), tuple)
        test.assertTrue(all(0 <= letter < self.letters for letter in word))
        test.assertNotIn(word, self.told)
        test.assertLessEqual(len(word), 600)

    def marks(self, word):
        return [self.told[word + end] for end in self.asker.tellers()]

    def look_at_table(self):
        """There is no gap, no two access words' marks are alike, and the bound holds."""
        access = self.asker.access()
        for word in access:
            for row in [word] + [word + (letter,) for letter in range(self.letters)]:
                self.marks(row)
        rows = [self.marks(word) for word in access]
        for place, row in enumerate(rows):
            self.test.assertNotIn(row, rows[:place])
        count = len(access) + (self.wish()[0] == "spent")
        self.test.assertLessEqual(self.asked, self.bound(count))

    def look_at_spent(self, word):
        test = self.test
        access = self.asker.access()
        test.assertEqual(len(access), self.most)
        test.assertNotEqual(word, ())
        test.assertIn(word[:-1], access)
        test.assertIn(word[-1], range(self.letters))
        test.assertNotIn(self.marks(word), [self.marks(other) for other in access])

    def look_at_house(self, house):
        """The house is the guess of the table, and answers as it was told."""
        access = self.asker.access()
        rows = [self.marks(word) for word in access]
        ways = tuple(
            tuple(rows.index(self.marks(word + (letter,))) for letter in range(self.letters))
            for word in access
        )
        due = (self.letters, tuple(self.marks_of_room(word) for word in access), ways)
        self.test.assertEqual(house, due)
        for word, mark in self.told.items():
            self.test.assertEqual(self.answer(house, word), mark)

    def nag(self):
        """Each deed that is to be refused now, in the order of the refusals."""
        kind, thing = self.wish()
        before = state(self.asker)
        if kind == "ask":
            for mark in self.marks_refused:
                self.refused(BadMark, self.asker.hear, mark)
        else:
            for mark in self.marks_taken + self.marks_refused:
                self.refused(OutOfTurn, self.asker.hear, mark)
        if kind == "show":
            self.nag_with_objections(thing)
        else:
            self.refused(OutOfTurn, self.asker.agree)
            for word in ((), (0,), (0,) * 400, (-1,), (self.letters,)):
                for mark in self.marks_taken + self.marks_refused:
                    self.refused(OutOfTurn, self.asker.differ, word, mark)
        self.test.assertEqual(state(self.asker), before)

    def nag_with_objections(self, house):
        differ = self.asker.differ
        for number in (-1, self.letters, FAR):
            for word in ((number,), (0, number), (0,) * 399 + (number,)):
                for mark in self.marks_taken + self.marks_refused:
                    self.refused(BadWord, differ, word, mark)
        words = list(self.told)[:3] + list(self.told)[-3:] + [(0,) * 400, (0,) * 31]
        for word in words:
            for mark in self.marks_refused:
                self.refused(BadMark, differ, word, mark)
            self.refused(NoDifference, differ, word, self.answer(house, word))
        for word in self.told:
            for mark in self.marks_taken + (1,):
                if mark != self.answer(house, word):
                    self.refused(Contradiction, differ, word, mark)

    def refused(self, kind, function, *handed):
        self.test.assert_refused(kind, function, *handed)


class WatchedSays(Watched):
    def make(self):
        return SayAsker(self.letters, self.most)

    def first_words(self):
        return [()], [(letter,) for letter in range(self.letters)]

    def answer(self, house, word):
        return say_answer(house, word)

    def marks_of_room(self, word):
        return tuple(self.told[word + (letter,)] for letter in range(self.letters))

    def bound(self, count):
        return (1 + count * self.letters) * (count + self.letters) + 10 * (count - 1)

    def look_at_asking(self, word):
        Watched.look_at_asking(self, word)
        self.test.assertNotEqual(word, ())

    def look_at_words(self):
        Watched.look_at_words(self)
        self.test.assertNotIn((), self.asker.tellers())

    def nag_with_objections(self, house):
        for mark in self.marks_taken + self.marks_refused:
            self.refused(BadWord, self.asker.differ, (), mark)
        Watched.nag_with_objections(self, house)


def lead(watched, house, objection):
    """The house answers, agrees where the objection is None, and else objects with it."""
    while not watched.ended():
        kind, thing = watched.wish()
        if kind == "ask":
            watched.hear(watched.answer(house, thing))
            continue
        word = objection(house, thing)
        if word is None:
            watched.agree()
        else:
            watched.differ(word, watched.answer(house, word))
    return watched.wish()


def drive(watched, answer_for, objection_for):
    """Whatever it is told, it comes to its end; the objections stop only where it ends."""
    while not watched.ended():
        kind, thing = watched.wish()
        if kind == "ask":
            watched.hear(answer_for(thing))
            continue
        word = untold(objection_for(thing), watched.told)
        mark = watched.answer(thing, word)
        watched.differ(word, mark - 1 if mark > 0 else mark + 1)
    watched.test.assertEqual(watched.wish()[0], "spent")
    watched.test.assertLessEqual(len(watched.shown), watched.most + watched.shown_ahead)


def untold(word, told):
    """The longest end of the word that was not told, or the word with noughts behind it."""
    for place in range(len(word)):
        if word[place:] not in told:
            return word[place:]
    while word in told:
        word = word + (0,)
    return word


def long_objection(count):
    """A word with just so many letters that tells two houses apart, where there is one; else
    the one with the most letters that are fewer."""
    def objection(house, other):
        levels = levels_of(house, other, count)
        for at in range(count, -1, -1):
            for pair in levels[at]:
                if house[1][pair[0]] != other[1][pair[1]]:
                    return word_of(levels, at, pair)
        return None
    return objection


def long_saying(count):
    """The same of two houses that say."""
    def objection(house, other):
        levels = levels_of(house, other, count - 1)
        for at in range(count - 1, -1, -1):
            for pair in levels[at]:
                rows = zip(house[1][pair[0]], other[1][pair[1]])
                for letter, (one, two) in enumerate(rows):
                    if one != two:
                        return word_of(levels, at, pair) + (letter,)
        return None
    return objection


def levels_of(house, other, count):
    """For each count of letters the pairs of rooms behind such words, each with a step to it."""
    levels = [{(0, 0): None}]
    for number in range(count):
        level = {}
        for pair in levels[-1]:
            for letter, goal in enumerate(zip(house[2][pair[0]], other[2][pair[1]])):
                level.setdefault(goal, (pair, letter))
        levels.append(level)
    return levels


def word_of(levels, at, pair):
    word = []
    while at > 0:
        pair, letter = levels[at][pair]
        word.append(letter)
        at -= 1
    return tuple(reversed(word))


OBJECTIONS = (
    difference, long_objection(17), long_objection(100), long_objection(399), long_objection(400)
)


def scattered(word, kinds):
    """A mark that hangs on each letter of the word: no small house answers so."""
    return zlib.crc32(repr(word).encode()) % kinds
