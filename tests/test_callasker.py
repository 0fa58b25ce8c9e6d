"""[0.2], [0.5], [10.1] to [10.10] and the interface's guessroom/callasker.py."""

import copy
import itertools
import random
import unittest

from guessroom.callasker import CallAsker, use_row
from guessroom.callhouse import uses_of, works_difference
from guessroom.errors import BadWord, Contradiction, NoDifference, OutOfTurn
from guessroom.least import least
from callhunts import WatchedCalls, lead_works, rows_of_uses, state
from hunts import scattered
from refusals import RefusalTest
from rows import (
    all_rows, everything, many_works, parts_by_hand, random_row, random_works, takes_by_hand,
    told_apart,
)
from samples import TOP, random_word

# Helper 0 takes a row with just one call of helper 1; helper 1 an even count of letters.
PAIR = (1, ((3, (0, 5, 0), ((0, 2, 1), (1, 2, 2), (2, 2, 2))), (3, (TOP, 0), ((1, 1, 1), (0, 0, 0)))))


def rooms_needed(works):
    """For each helper how many rooms its least house has, with 1 for each mark but 0."""
    return [
        len(least((house[0], tuple(int(mark != 0) for mark in house[1]), house[2]))[1])
        for house in works[1]
    ]


def chance_objection(seed, count):
    """A chance row of about so many signs that tells the two apart, where one is soon found."""
    chance = random.Random(seed)

    def objection(works, other):
        for number in range(8):
            row = random_row(chance, works[0], len(works[1]), count)
            if takes_by_hand(works, row) != takes_by_hand(other, row):
                return row
        return works_difference(works, other)

    return objection


def wrapped_objection(works, other):
    """What tells the two apart, with other rows that both take ahead of it, where there are."""
    row = works_difference(works, other)
    if row is None:
        return None
    for ahead in itertools.islice(all_rows(works[0], len(works[1]), 3), 1, 40):
        longer = ahead * 20 + row
        if takes_by_hand(works, longer) != takes_by_hand(other, longer):
            return longer
    return row


class UseRowTest(unittest.TestCase):
    def test_by_hand(self):
        uses = [((), (0, 2, 3), ()), ((0, 1), (0,), (3, 0))]
        self.assertEqual(use_row(1, 2, 0, uses, ()), ())
        self.assertEqual(use_row(1, 2, 0, uses, (0, 1, 2)), (0, 1, 0, 2, 3, 3, 2, 0, 3))
        self.assertEqual(use_row(1, 2, 1, uses, ()), (0, 1, 2, 3, 3, 0))
        self.assertEqual(use_row(1, 2, 1, uses, (2, 0)), (0, 1, 2, 2, 0, 3, 0, 3, 3, 0))
        self.assertEqual(uses, [((), (0, 2, 3), ()), ((0, 1), (0,), (3, 0))])

    def test_the_local_word_is_a_part_of_its_row(self):
        chance = random.Random(351)
        for works in many_works(352, 80, 3, 3, 4, (0, 1, 1)):
            plain, helpers = works[0], len(works[1])
            uses = uses_of(works)
            if None in uses:
                continue
            for j in range(helpers):
                for count in (0, 1, 7, 40):
                    word = random_word(chance, plain + helpers, count)
                    row = use_row(plain, helpers, j, uses, word)
                    pieces = parts_by_hand(plain, helpers, row)
                    self.assertIn((j, word), pieces)
                    pieces.remove((j, word))
                    for helper, other in pieces:
                        house = works[1][helper]
                        room = 0
                        for letter in other:
                            room = house[2][room][letter]
                        self.assertNotEqual(house[1][room], 0)

    def test_six_hundred_letters(self):
        uses = [((), (), ()), ((), (), ())]
        word = (0, 1, 2) * 200
        self.assertEqual(use_row(1, 2, 0, uses, word), (0, 1, 3, 2, 3) * 200)
        self.assertEqual(use_row(1, 2, 1, uses, word), (2,) + (0, 1, 3, 2, 3) * 200 + (3,))


class HuntTest(RefusalTest):
    def hunt(self, works, most=4, objection=works_difference, nagged=False, uses=None):
        """[10.8], along a hunt in which [10.2] to [10.7] and [10.9] are looked at."""
        plain, helpers = works[0], len(works[1])
        uses = uses_of(works) if uses is None else uses
        if None in uses:
            return None
        watched = WatchedCalls(self, plain, helpers, most, uses, nagged)
        kind, thing = lead_works(watched, works, objection)
        counts = rooms_needed(works)
        if max(counts) <= most:
            self.assertEqual(kind, "done")
            self.assertFalse(told_apart(works, thing))
            self.assertEqual([len(house[1]) for house in thing[1]], counts)
            self.assertLessEqual(len(watched.shown), 1 + sum(counts) - helpers)
        else:
            self.assertIn(kind, ("spent", "done"))
            if kind == "spent":
                self.assertGreater(counts[thing], most)
        return watched

    def test_by_hand(self):
        watched = self.hunt(PAIR)
        plain, houses = watched.wish()[1]
        self.assertEqual(plain, 1)
        self.assertEqual(houses[1], (3, (1, 0), ((1, 1, 1), (0, 0, 0))))

    def test_its_first_wishes(self):
        uses = [((), (0, 2, 3), ()), ((0,), (), ())]
        asker = CallAsker(1, 2, 4, uses)
        self.assertEqual(asker.wants(), ("ask", (0, 2, 3)))
        self.assertEqual(asker.heard(), [])
        # The row of helper 1's use is the same one, and is not asked again.
        self.assertIsNone(asker.hear(True))
        self.assertEqual(asker.heard(), [((0, 2, 3), True)])
        self.assertNotEqual(asker.wants(), ("ask", (0, 2, 3)))

    def test_chance_works(self):
        for works in many_works(353, 120, 3, 3):
            self.hunt(works)

    def test_the_greatest_counts(self):
        chance = random.Random(354)
        for plain, helpers in ((4, 1), (4, 2), (3, 3), (1, 3), (1, 1)):
            for number in range(5):
                works = random_works(chance, plain, helpers, 4, (0, 1, 1))
                self.hunt(works)
                self.hunt(works, 4, chance_objection(355, 60))

    def test_houses_of_one_room(self):
        for plain, helpers in ((1, 1), (4, 2), (3, 3)):
            watched = self.hunt(everything(plain, helpers), 1, nagged=True)
            self.assertEqual(watched.wish(), ("done", everything(plain, helpers)))
            self.assertEqual(len(watched.shown), 1)

    def test_marks_other_than_0_and_1(self):
        for works in many_works(356, 60, 2, 2, 4, (0, 7, TOP)):
            watched = self.hunt(works)
            if watched is not None:
                marks = {mark for house in watched.wish()[1][1] for mark in house[1]}
                self.assertLessEqual(marks, {0, 1})

    def test_refusals_along_the_way(self):
        for works in many_works(357, 30, 2, 2):
            self.hunt(works, 4, nagged=True)
            self.hunt(works, 4, chance_objection(358, 40), nagged=True)

    def test_long_and_deep_objections(self):
        for works in many_works(359, 60, 2, 3, 4, (0, 1, 1)):
            self.hunt(works, 4, chance_objection(360, 200))
            self.hunt(works, 4, wrapped_objection)

    def test_the_longest_objections(self):
        # Helper 0 takes the rows of which the count of plain letters is no multiple of 4.
        ways = tuple(((room + 1) % 4, room) for room in range(4))
        works = (1, ((2, (0, 1, 1, 1), ways),))
        rows = [(0,) * 396, (0,) * 397, (0, 1) * 130 + (2,) * 130, (1, 2) * 200 + (0, 1, 2) * 200,
                ((1,) * 300 + (2,) * 300) * 3 + (0,) * 398, (1, 0, 2) * 398 + (0,) * 2]

        def objection(hidden, shown):
            for row in rows:
                if takes_by_hand(hidden, row) != takes_by_hand(shown, row):
                    return row
            return works_difference(hidden, shown)

        watched = self.hunt(works, 4, objection)
        self.assertGreater(max(len(row) for row in watched.told), 390)
        self.hunt(works, 3, objection)

    def test_fewer_rooms_than_needed(self):
        ends = {}
        for works in many_works(361, 90, 2, 2, 4):
            for most in (1, 2, 3):
                watched = self.hunt(works, most)
                if watched is not None:
                    kind = watched.wish()[0]
                    ends[kind] = ends.get(kind, 0) + 1
        self.assertGreater(ends["spent"], 20)
        self.assertGreater(ends["done"], 20)

    def test_other_uses_than_the_least(self):
        chance = random.Random(362)
        tried = 0
        for works in many_works(363, 200, 2, 2, 3, (0, 1, 1)):
            uses = uses_of(works)
            if None in uses:
                continue
            uses = [longer_use(chance, works, j, use) for j, use in enumerate(uses)]
            if uses != uses_of(works):
                self.hunt(works, 4, uses=uses)
                tried += 1
        self.assertGreater(tried, 30)

    def test_a_use_not_nested_by_itself(self):
        # Helper 1 is called only within a call of helper 0.
        uses = [((), (0,), ()), ((1, 0), (), (3, 0))]
        watched = self.hunt(everything(1, 2), 1, uses=uses)
        self.assertIn(((1, 0, 2, 3, 3, 0), True), watched.asker.heard())


def longer_use(chance, works, j, use):
    """Another use of the helper, where one is soon found, with rows by chance in it."""
    plain, helpers = works[0], len(works[1])
    for number in range(30):
        some = [random_row(chance, plain, helpers, chance.randint(0, 8)) for k in range(3)]
        ahead, within, behind = some
        if j == 0:
            ahead = behind = ()
        if chance.randrange(2) and j > 0:
            helper = chance.randrange(helpers)
            ahead = (plain + helper,) + ahead
            behind = behind + (plain + helpers,)
        new = (ahead, within, behind)
        if takes_by_hand(works, rows_of_uses(plain, helpers, [new] * helpers)[j]):
            return new
    return use


class AnyAnswerTest(RefusalTest):
    def drive(self, plain, helpers, most, uses, answer_for, row_for, nagged=False):
        """Whatever it is told, it comes to an end; no works shown is agreed to."""
        watched = WatchedCalls(self, plain, helpers, most, uses, nagged)
        while not watched.ended():
            kind, thing = watched.wish()
            if kind == "ask":
                watched.hear(answer_for(thing))
                continue
            row = row_for(thing)
            while row in watched.told:
                row = row + (0,)
            watched.differ(row, not takes_by_hand(thing, row))
        self.assertLessEqual(len(watched.shown), 1 + helpers * (most - 1) + 1)
        return watched.wish()[0]

    def test_answers_that_no_works_gives(self):
        chance = random.Random(371)
        ends = {}
        for plain, helpers in ((1, 1), (2, 2), (3, 3), (4, 2), (1, 3)):
            uses = uses_of(everything(plain, helpers))
            first = rows_of_uses(plain, helpers, uses)
            for most in (1, 4):
                for kinds in (2, 3, 10):
                    for count in (5, 60):
                        kind = self.drive(
                            plain, helpers, most, uses,
                            lambda row: row in first or scattered(row, kinds) > 0,
                            lambda works: random_row(chance, plain, helpers, count),
                        )
                        ends[kind] = ends.get(kind, 0) + 1
        self.assertGreater(ends["spent"], 3)
        self.assertGreater(ends["torn"], 3)

    def test_always_the_same_answer(self):
        chance = random.Random(372)
        ends = set()
        for plain, helpers in ((1, 1), (2, 2), (3, 3)):
            uses = uses_of(everything(plain, helpers))
            first = rows_of_uses(plain, helpers, uses)
            for taken in (True, False):
                for most in (1, 4):
                    for count in (3, 30, 300):
                        ends.add(self.drive(
                            plain, helpers, most, uses, lambda row: taken or row in first,
                            lambda works: random_row(chance, plain, helpers, count),
                        ))
        self.assertLessEqual(ends, {"spent", "torn"})

    def test_uses_whose_row_is_not_taken(self):
        uses = [((), (0,), ()), ((0,), (), ()), ((1,), (2, 4), (4,))]
        rows = rows_of_uses(1, 3, uses)
        for j in range(3):
            asker = CallAsker(1, 3, 2, uses)
            for row in rows[:j]:
                self.assertEqual(asker.wants(), ("ask", row))
                asker.hear(True)
            self.assertEqual(asker.wants(), ("ask", rows[j]))
            asker.hear(False)
            self.assertEqual(asker.wants(), ("useless", j))
            self.look_at_end(asker)

    def test_uses_with_the_same_row(self):
        # The row of helper 2's use is that of helper 0's.
        uses = [((), (0, 3, 4), ()), ((), (), ()), ((0,), (), ())]
        for answers, due in (
            ([False], ("useless", 0)), ([True, False], ("useless", 1)), ([True, True], None)
        ):
            asker = CallAsker(1, 3, 2, uses)
            for row, taken in zip([(0, 3, 4), (2, 4)], answers):
                self.assertEqual(asker.wants(), ("ask", row))
                asker.hear(taken)
            if due is None:
                self.assertEqual(asker.wants()[0], "ask")
                self.assertNotIn(asker.wants()[1], [(0, 3, 4), (2, 4)])
            else:
                self.assertEqual(asker.wants(), due)
                self.look_at_end(asker)

    def look_at_end(self, asker):
        kept = state(asker)
        for taken in (True, False):
            self.assert_refused(OutOfTurn, asker.hear, taken)
            for row in ((), (0,), (9,)):
                self.assert_refused(OutOfTurn, asker.differ, row, taken)
        self.assert_refused(OutOfTurn, asker.agree)
        self.assertEqual(state(asker), kept)

    def test_torn_by_an_objection_all_of_whose_parts_are_taken(self):
        asker = self.shown(everything(1, 1), 2)
        row = (1, 0, 0, 0, 2, 1, 0, 2)
        asker.differ(row, False)
        while asker.wants()[0] == "ask":
            asker.hear(True)
        self.assertEqual(asker.wants()[0], "torn")
        self.assertIn(asker.wants()[1], dict(asker.heard()))
        self.look_at_end(asker)

    def test_torn_at_once(self):
        # Both parts, (0,) and (1,) of helper 0, are known to be taken.
        asker = self.shown(everything(1, 1), 2)
        accepted = {piece for row, taken in asker.heard() for piece in parts_by_hand(1, 1, row)}
        self.assertIn((0, (0,)), accepted)
        self.assertIn((0, (1,)), accepted)
        row = (1, 0, 2)
        if row not in dict(asker.heard()):
            asker.differ(row, False)
            self.assertEqual(asker.wants()[0], "torn")

    def test_torn_by_a_row_told_true(self):
        # The row (0, 0) is told False, and is then within a row told True.
        ways = ((1, 0), (0, 1))
        asker = self.shown((1, ((2, (1, 0), ways),)), 2)
        self.assertIs(dict(asker.heard())[(0,)], False)
        asker.differ((1, 0, 2), True)
        self.assertEqual(asker.wants()[0], "torn")
        self.look_at_end(asker)

    def shown(self, works, most):
        asker = CallAsker(works[0], len(works[1]), most, uses_of(works))
        while asker.wants()[0] == "ask":
            asker.hear(takes_by_hand(works, asker.wants()[1]))
        self.assertEqual(asker.wants()[0], "show")
        return asker

    def test_refusals_along_the_way(self):
        chance = random.Random(373)
        for plain, helpers in ((1, 1), (2, 2)):
            uses = uses_of(everything(plain, helpers))
            first = rows_of_uses(plain, helpers, uses)
            for kinds in (2, 5):
                self.drive(
                    plain, helpers, 3, uses,
                    lambda row: row in first or scattered(row, kinds) > 0,
                    lambda works: random_row(chance, plain, helpers, 20), nagged=True,
                )


class DeedsTest(RefusalTest):
    def shown(self, works, most=4):
        return AnyAnswerTest.shown(self, works, most)

    def test_a_wrong_works_agreed_to(self):
        works = (1, ((2, (1, 1, 1, 0), ((1, 0), (2, 1), (3, 2), (3, 3))),))
        asker = self.shown(works)
        self.assertEqual(asker.wants(), ("show", everything(1, 1)))
        self.assertTrue(told_apart(works, everything(1, 1)))
        self.assertIsNone(asker.agree())
        self.assertEqual(asker.wants(), ("done", everything(1, 1)))
        AnyAnswerTest.look_at_end(self, asker)

    def test_refusals_of_differ_in_their_order(self):
        asker = CallAsker(1, 1, 2, [((), (), ())])
        for row in ((), (9,), (2,)):
            self.assert_refused(OutOfTurn, asker.differ, row, True)
        self.assert_refused(OutOfTurn, asker.agree)
        asker = self.shown(everything(1, 1))
        kept = state(asker)
        for row in ((2,), (1,), (3,), (-1,), (0, 1, 0)):
            for taken in (True, False):
                self.assert_refused(BadWord, asker.differ, row, taken)
        self.assert_refused(NoDifference, asker.differ, (), True)
        self.assert_refused(NoDifference, asker.differ, (0,) * 50, True)
        self.assert_refused(Contradiction, asker.differ, (), False)
        self.assert_refused(OutOfTurn, asker.hear, True)
        self.assertEqual(state(asker), kept)
        self.assertIsNone(asker.differ((0,) * 50, False))
        self.assertEqual(asker.heard()[-1], ((0,) * 50, False))

    def test_lists_are_their_askers_own(self):
        asker = self.shown(PAIR)
        self.assert_own_list(asker.heard)

    def test_uses_are_not_changed_and_not_kept(self):
        uses = uses_of(PAIR)
        kept = copy.deepcopy(uses)
        asker = CallAsker(1, 2, 4, uses)
        twin = CallAsker(1, 2, 4, kept)
        self.assertEqual(uses, kept)
        uses.clear()
        while asker.wants()[0] == "ask":
            self.assertEqual(asker.wants(), twin.wants())
            taken = takes_by_hand(PAIR, asker.wants()[1])
            asker.hear(taken)
            twin.hear(taken)
        self.assertEqual(state(asker), state(twin))

    def test_askers_keep_nothing_of_one_another(self):
        one = CallAsker(1, 1, 2, [((), (), ())])
        two = CallAsker(1, 1, 2, [((), (), ())])
        one.hear(True)
        self.assertEqual(state(two), (("ask", ()), []))

    def test_what_a_works_done_with_proves(self):
        """[10.10], against every works of one helper with as many rooms."""
        for works in many_works(381, 40, 1, 1, 2, (0, 1)):
            if None in uses_of(works):
                continue
            asker = CallAsker(1, 1, 2, uses_of(works))
            while asker.wants()[0] in ("ask", "show"):
                kind, thing = asker.wants()
                row = thing if kind == "ask" else works_difference(works, thing)
                if kind == "ask":
                    asker.hear(takes_by_hand(works, row))
                elif row is None:
                    asker.agree()
                else:
                    asker.differ(row, takes_by_hand(works, row))
            done = asker.wants()[1]
            rooms = len(done[1][0][1])
            for other in small_works(rooms):
                if all(takes_by_hand(other, row) == taken for row, taken in asker.heard()):
                    self.assertFalse(told_apart(other, done))


def small_works(rooms):
    goals = list(itertools.product(range(rooms), repeat=2))
    for marks in itertools.product((0, 1), repeat=rooms):
        for ways in itertools.product(goals, repeat=rooms):
            yield (1, ((2, marks, ways),))


if __name__ == "__main__":
    unittest.main()
