"""Hunts of a SumAsker, looked at after each deed."""

from guessroom.sumasker import SumAsker
from hunts import Watched
from samples import FAR
from sums import nothing, rank_by_hand, worth_by_hand


class WatchedSums(Watched):
    shown_ahead = 1

    def __init__(self, test, p, letters, most, nagged=False):
        self.p = p
        self.marks_taken = (0, p - 1)
        self.marks_refused = (-1, p, p + 1, -FAR, FAR)
        Watched.__init__(self, test, letters, most, nagged)

    def make(self):
        return SumAsker(self.p, self.letters, self.most)

    def first_words(self):
        return [], []

    def answer(self, house, word):
        return worth_by_hand(house, word)

    def bound(self, count):
        return count * (count * (self.letters + 13) + 1)

    def look(self):
        self.test.assertEqual(self.asker.p, self.p)
        Watched.look(self)

    def look_at_table(self):
        """The access words' rows were told and are free, and the bound holds."""
        access = self.asker.access()
        ends = self.asker.tellers()
        if self.wish()[0] == "spent":
            access.append(self.wish()[1])
        self.test.assertEqual(len(ends), len(access))
        rows = [self.marks(word) for word in access]
        self.test.assertEqual(rank_by_hand(self.p, rows), len(access))
        self.test.assertLessEqual(self.asked, self.bound(len(access)))

    def look_at_spent(self, word):
        access = self.asker.access()
        self.test.assertEqual(len(access), self.most)
        self.test.assertIn(word[:-1], access)
        self.test.assertIn(word[-1], range(self.letters))

    def look_at_house(self, house):
        test = self.test
        access = self.asker.access()
        size = len(access)
        if size == 0:
            test.assertEqual(house, nothing(self.p, self.letters))
        p, letters, first, tables, last = house
        test.assertEqual((p, letters, len(tables)), (self.p, self.letters, self.letters))
        test.assertEqual(first, ((1,) + (0,) * size)[:size])
        test.assertEqual(last, tuple(self.told[word] for word in access))
        columns = list(zip(*[self.marks(word) for word in access]))
        for letter, table in enumerate(tables):
            test.assertEqual((type(table), len(table)), (tuple, size))
            for word, parts in zip(access, table):
                test.assertEqual((type(parts), len(parts)), (tuple, size))
                test.assertTrue(all(0 <= part < p for part in parts))
                made = [sum(x * y for x, y in zip(parts, column)) % p for column in columns]
                test.assertEqual(made, self.marks(word + (letter,)))
        for word in self.words_to_try():
            test.assertEqual(worth_by_hand(house, word), self.told[word])

    def words_to_try(self):
        """All words told that are not long, and some of the long ones."""
        long = [word for word in self.told if len(word) > 40]
        return [word for word in self.told if len(word) <= 40] + long[::1 + len(long) // 12]
