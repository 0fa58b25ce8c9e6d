"""Hunts of a CallAsker, looked at after each deed."""

import itertools

from guessroom.callasker import CallAsker
from guessroom.callhouse import made_works
from guessroom.errors import BadWord, Contradiction, NoDifference, OutOfTurn
from rows import parts_by_hand, takes_by_hand
from samples import FAR


def rows_of_uses(plain, helpers, uses):
    rows = [uses[0][1]]
    for j in range(1, helpers):
        ahead, within, behind = uses[j]
        rows.append(ahead + (plain + j,) + within + (plain + helpers,) + behind)
    return rows


def state(asker):
    return (asker.wants(), asker.heard())


class WatchedCalls:
    """As Watched of hunts.py, for works."""

    def __init__(self, test, plain, helpers, most, uses, nagged=False):
        self.test = test
        self.plain = plain
        self.helpers = helpers
        self.most = most
        self.uses = list(uses)
        self.nagged = nagged
        self.asker = CallAsker(plain, helpers, most, list(uses))
        self.twin = CallAsker(plain, helpers, most, list(uses))
        self.told = {}
        self.pieces = {}
        self.asked = 0
        self.shown = []
        self.look()

    def wish(self):
        return self.asker.wants()

    def ended(self):
        return self.wish()[0] not in ("ask", "show")

    def hear(self, taken):
        self.keep(self.wish()[1], taken)
        self.asked += 1
        self.test.assertIsNone(self.asker.hear(taken))
        self.twin.hear(taken)
        self.look()

    def agree(self):
        works = self.wish()[1]
        self.test.assertIsNone(self.asker.agree())
        self.twin.agree()
        self.test.assertEqual(self.wish(), ("done", works))
        self.look()

    def differ(self, signs, taken):
        self.keep(signs, taken)
        self.test.assertIsNone(self.asker.differ(signs, taken))
        self.twin.differ(signs, taken)
        self.look()

    def keep(self, signs, taken):
        self.told[signs] = taken
        self.pieces[signs] = parts_by_hand(self.plain, self.helpers, signs)

    def look(self):
        test = self.test
        wish = self.wish()
        test.assertEqual((type(wish), len(wish)), (tuple, 2))
        test.assertEqual(self.asker.heard(), list(self.told.items()))
        if self.nagged:
            self.nag()
        test.assertEqual(state(self.asker), (wish, list(self.told.items())))
        test.assertEqual(wish, self.twin.wants())
        getattr(self, "look_at_" + wish[0])(wish[1])
        if wish[0] != "ask":
            test.assertLessEqual(self.asked, self.bound())

    def look_at_ask(self, signs):
        test = self.test
        test.assertIs(type(signs), tuple)
        test.assertIsNotNone(parts_by_hand(self.plain, self.helpers, signs))
        test.assertNotIn(signs, self.told)
        left = [row for row in self.use_rows() if row not in self.told]
        if left:
            test.assertEqual(signs, left[0])
            test.assertTrue(all(self.told.values()))

    def use_rows(self):
        return rows_of_uses(self.plain, self.helpers, self.uses)

    def look_at_show(self, works):
        test = self.test
        test.assertEqual(made_works(*works), works)
        test.assertEqual((works[0], len(works[1])), (self.plain, self.helpers))
        for house in works[1]:
            test.assertLessEqual(len(house[1]), self.most)
        for signs, taken in self.told.items():
            test.assertIs(self.takes(works, signs), taken)
        test.assertEqual(self.contradicted(), [])
        if self.shown and self.shown[-1] != works:
            before = [len(house[1]) for house in self.shown[-1][1]]
            now = [len(house[1]) for house in works[1]]
            test.assertTrue(all(old <= new for old, new in zip(before, now)))
            test.assertGreater(sum(now), sum(before))
        self.shown.append(works)

    def look_at_done(self, works):
        self.test.assertEqual(works, self.shown[-1])

    def look_at_useless(self, j):
        rows = self.use_rows()
        self.test.assertIs(self.told[rows[j]], False)
        self.test.assertNotIn(rows[j], rows[:j])
        self.test.assertTrue(all(self.told[row] for row in rows[:j]))
        self.test.assertEqual(list(self.told.values()).count(False), 1)

    def look_at_torn(self, signs):
        self.test.assertIn(signs, self.told)
        self.test.assertNotEqual(self.contradicted(), [])

    def look_at_spent(self, j):
        self.test.assertIn(j, range(self.helpers))
        self.test.assertTrue(self.has_many_apart(j), (j, self.told))

    def takes(self, works, signs):
        return all(
            takes_word(works[1][helper], word) for helper, word in self.pieces[signs]
        )

    def accepted(self):
        rows = [row for row, taken in self.told.items() if taken]
        return {piece for row in rows for piece in self.pieces[row]}

    def contradicted(self):
        """The rows told False each part of which is a part of a row told True."""
        accepted = self.accepted()
        return [
            row for row, taken in self.told.items()
            if not taken and all(piece in accepted for piece in self.pieces[row])
        ]

    def marks_told(self, j):
        """What is told of local words of helper j, as [10.4] tells it."""
        accepted = self.accepted()
        marks = {word: 1 for helper, word in accepted if helper == j}
        for row, taken in self.told.items():
            left = {piece for piece in self.pieces[row] if piece not in accepted}
            if not taken and len(left) == 1:
                helper, word = left.pop()
                if helper == j:
                    marks[word] = 0
        return marks

    def has_many_apart(self, j):
        """Whether most + 1 local words are told apart two by two."""
        marks = self.marks_told(j)
        begins = sorted({word[:at] for word in marks for at in range(len(word) + 1)})
        rests = {
            begin: {word[len(begin):]: mark for word, mark in marks.items()
                    if word[:len(begin)] == begin}
            for begin in begins
        }
        near = {begin: set() for begin in begins}
        for one, two in itertools.combinations(begins, 2):
            if any(rests[two].get(rest, mark) != mark for rest, mark in rests[one].items()):
                near[one].add(two)
                near[two].add(one)
        return has_clique(near, set(begins), self.most + 1)

    def bound(self):
        """[10.9]; where the counts of access words can't be seen, the most that they may be."""
        letters = self.plain + self.helpers
        kind, thing = self.wish()
        if kind in ("show", "done"):
            counts = [len(house[1]) for house in thing[1]]
        else:
            counts = [self.most + (kind == "spent" and thing == j) for j in range(self.helpers)]
        pieces = max((len(some) for some in self.pieces.values()), default=0)
        total = self.helpers + (pieces if kind == "torn" else 0)
        for count in counts:
            total += (1 + count * letters) * count + (10 + pieces) * (count - 1)
        return total

    def nag(self):
        """Each deed that is to be refused now, in the order of the refusals."""
        kind, thing = self.wish()
        before = state(self.asker)
        end = self.plain + self.helpers
        wrong = ((end,), (self.plain,), (-1,), (end + 1,), (0, FAR), (self.plain, end, end))
        if kind != "ask":
            for taken in (True, False):
                self.refused(OutOfTurn, self.asker.hear, taken)
        if kind == "show":
            for taken in (True, False):
                for signs in wrong:
                    self.refused(BadWord, self.asker.differ, signs, taken)
            for signs in list(self.told)[:3] + list(self.told)[-3:]:
                taken = takes_by_hand(thing, signs)
                self.refused(NoDifference, self.asker.differ, signs, taken)
                self.refused(Contradiction, self.asker.differ, signs, not taken)
            for signs in ((0,) * 30, (self.plain, end) * 5, (self.plain,) * 9 + (end,) * 9):
                taken = takes_by_hand(thing, signs)
                self.refused(NoDifference, self.asker.differ, signs, taken)
        else:
            self.refused(OutOfTurn, self.asker.agree)
            for signs in ((), (0,), (self.plain, end)) + wrong:
                for taken in (True, False):
                    self.refused(OutOfTurn, self.asker.differ, signs, taken)
        self.test.assertEqual(state(self.asker), before)

    def refused(self, kind, function, *handed):
        self.test.assert_refused(kind, function, *handed)


def takes_word(house, word):
    room = 0
    for letter in word:
        room = house[2][room][letter]
    return house[1][room] != 0


def has_clique(near, left, count):
    if count == 0:
        return True
    left = {begin for begin in left if len(near[begin] & left) >= count - 1}
    while len(left) >= count:
        begin = min(left, key=lambda one: (len(one), one))
        if has_clique(near, left & near[begin], count - 1):
            return True
        left.remove(begin)
    return False


def lead_works(watched, works, objection):
    """The works answers, agrees where the objection is None, and else objects with it."""
    while not watched.ended():
        kind, thing = watched.wish()
        if kind == "ask":
            watched.hear(takes_by_hand(works, thing))
            continue
        signs = objection(works, thing)
        if signs is None:
            watched.agree()
        else:
            watched.differ(signs, takes_by_hand(works, signs))
    return watched.wish()
