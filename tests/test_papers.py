"""[0.2], [5.1] to [5.5] and the interface's guessroom/papers.py."""

import copy
import itertools
import random
import unittest

from guessroom.asker import Asker
from guessroom.errors import NoPaper
from guessroom.house import made
from guessroom.papers import at_least, judged, paper_of
from guessroom.telling import difference
from hunts import long_objection, scattered, state
from refusals import RefusalTest
from samples import (
    FAR, TOP, all_houses, answer, chain, pairs_told_apart, random_houses, reached_by_hand, ring,
    words_by_hand,
)

THREE = (2, (5, 0, 9), ((1, 2), (2, 1), (0, 1)))
# What chain(1, 3) answers for its words with at most 4 letters.
CHAIN = (
    1, ((), (0,), (0, 0)), ((), (0,)),
    (((), 0), ((0,), 0), ((0, 0), 1), ((0, 0, 0), 1), ((0, 0, 0, 0), 1)),
)


def steps(house, most, objection=difference):
    """An asker that the house leads, told after each deed."""
    asker = Asker(house[0], most)
    yield asker
    while asker.wants()[0] in ("ask", "show"):
        kind, thing = asker.wants()
        word = thing if kind == "ask" else objection(house, thing)
        if kind == "ask":
            asker.hear(answer(house, word))
        elif word is None:
            asker.agree()
        else:
            asker.differ(word, answer(house, word))
        yield asker


def last(house, most, objection=difference):
    for asker in steps(house, most, objection):
        pass
    return asker


def marks_by_hand(paper, word):
    """The marks heard behind the word, None where a word was not heard."""
    marks = []
    for end in paper[2]:
        found = [mark for heard, mark in paper[3] if heard == word + end]
        marks.append(found[0] if found else None)
    return marks


def tells_apart_by_hand(paper):
    letters, access, ends, heard = paper
    words = [word for word, mark in heard]
    if not access or len(set(words)) < len(words):
        return False
    for word in list(access) + list(ends) + words:
        if not all(number in range(letters) for number in word):
            return False
    rows = [marks_by_hand(paper, word) for word in access]
    return all(None not in row for row in rows) and all(
        one != other for one, other in itertools.combinations(rows, 2)
    )


def is_whole_by_hand(paper):
    letters, access, ends, heard = paper
    if not tells_apart_by_hand(paper) or access[0] != () or not ends or ends[0] != ():
        return False
    for place in range(1, len(access)):
        if not access[place] or access[place][:-1] not in access[:place]:
            return False
    rows = [marks_by_hand(paper, word) for word in access]
    return all(
        marks_by_hand(paper, word + (letter,)) in rows
        for word in access for letter in range(letters)
    )


def house_by_hand(paper):
    letters, access, ends, heard = paper
    rows = [marks_by_hand(paper, word) for word in access]
    ways = tuple(
        tuple(rows.index(marks_by_hand(paper, word + (letter,))) for letter in range(letters))
        for word in access
    )
    return (letters, tuple(dict(heard)[word] for word in access), ways)


class PaperTest(RefusalTest):
    def check(self, paper):
        kept = copy.deepcopy(paper)
        if tells_apart_by_hand(paper):
            self.assertEqual(at_least(paper), len(paper[1]))
        else:
            self.assert_refused(NoPaper, at_least, paper)
        if is_whole_by_hand(paper):
            self.assertEqual(judged(paper), house_by_hand(paper))
        else:
            self.assert_refused(NoPaper, judged, paper)
        self.assertEqual(paper, kept)

    def counts_but_is_not_whole(self, paper):
        self.assertEqual(at_least(paper), len(paper[1]))
        self.assert_refused(NoPaper, judged, paper)
        self.check(paper)

    def is_none(self, paper):
        self.assert_refused(NoPaper, at_least, paper)
        self.assert_refused(NoPaper, judged, paper)
        self.check(paper)


class PaperOfTest(PaperTest):
    def test_an_asker_that_was_told_nothing(self):
        for letters in (1, 6):
            paper = paper_of(Asker(letters, 12))
            self.assertEqual(paper, (letters, ((),), ((),), ()))
            self.is_none(paper)

    def test_done(self):
        asker = last(THREE, 3)
        paper = paper_of(asker)
        words = [(), (0,), (1,), (0, 0), (0, 1), (1, 0), (1, 1)]
        self.assertEqual(sorted(paper[3]), sorted((word, answer(THREE, word)) for word in words))
        self.assertEqual(paper[:3], (2, ((), (0,), (1,)), ((),)))
        self.assertEqual(at_least(paper), 3)
        self.assertEqual(judged(paper), THREE)

    def test_spent(self):
        paper = paper_of(last(THREE, 2))
        self.assertEqual(paper[:3], (2, ((), (0,), (1,)), ((),)))
        self.assertEqual(at_least(paper), 3)
        self.assert_refused(NoPaper, judged, paper)

    def test_after_each_deed(self):
        for house in (THREE, chain(2, 5), ring(6, 3, (0, 0, TOP)), chain(1, 12)):
            for most in (1, 2, 4, 12):
                for asker in steps(house, most):
                    before = state(asker)
                    paper = paper_of(asker)
                    self.assertEqual(state(asker), before)
                    over = [asker.wants()[1]] if asker.wants()[0] == "spent" else []
                    due = (asker.access() + over, asker.tellers(), asker.heard())
                    self.assertEqual(paper, (house[0],) + tuple(tuple(row) for row in due))
                    self.check(paper)

    def test_what_it_proves_at_the_end(self):
        for house in random_houses(71, 25, most_letters=4, most_rooms=9):
            for most in (1, 3, 12):
                for objection in (difference, long_objection(400)):
                    asker = last(house, most, objection)
                    paper = paper_of(asker)
                    if asker.wants()[0] == "spent":
                        self.assertEqual(at_least(paper), most + 1)
                    else:
                        self.assertEqual(at_least(paper), len(asker.access()))
                        self.assertEqual(judged(paper), asker.wants()[1])

    def test_a_wrong_house_agreed_to(self):
        asker = Asker(2, 5)
        while asker.wants()[0] == "ask":
            asker.hear(answer(chain(2, 4), asker.wants()[1]))
        shown = paper_of(asker)
        asker.agree()
        self.assertEqual(judged(shown), (2, (0,), ((0, 0),)))
        self.assertEqual(paper_of(asker), shown)

    def test_marks_that_no_house_answers(self):
        asker = Asker(3, 12)
        while asker.wants()[0] == "ask":
            asker.hear(scattered(asker.wants()[1], TOP))
        self.assertEqual(asker.wants()[0], "spent")
        self.assertEqual(at_least(paper_of(asker)), 13)

    def test_a_paper_stays_as_it_was(self):
        asker = Asker(2, 3)
        asker.hear(5)
        paper = paper_of(asker)
        kept = copy.deepcopy(paper)
        asker.hear(6)
        self.assertEqual(paper, kept)
        self.assertEqual([type(part) for part in paper[1:]], [tuple] * 3)
        self.assertEqual([type(pair) for pair in paper[3]], [tuple])


class TellsApartTest(PaperTest):
    def test_by_hand(self):
        self.assertEqual(at_least(CHAIN), 3)
        self.assertEqual(judged(CHAIN), chain(1, 3))
        self.check(CHAIN)

    def test_no_access_words(self):
        for ends in ((), ((),), ((), (0,))):
            for heard in ((), (((), 0),)):
                self.is_none((1, (), ends, heard))
        self.is_none((1, ()) + CHAIN[2:])

    def test_no_telling_words(self):
        self.counts_but_is_not_whole((1, ((),), (), ()))
        self.counts_but_is_not_whole((1, ((),), (), (((), 0), ((0,), 0))))
        self.counts_but_is_not_whole((1, ((0, 0),), (), ()))
        self.is_none((1, ((), (0,)), (), (((), 0), ((0,), 1))))

    def test_an_access_word_twice(self):
        self.is_none((1, ((), (0,), (0, 0), ())) + CHAIN[2:])
        self.is_none((1, ((), ()), ((),), (((), 0), ((0,), 0))))

    def test_a_telling_word_twice_is_no_harm(self):
        paper = CHAIN[:2] + (((), (0,), (0,), ()),) + CHAIN[3:]
        self.assertEqual(at_least(paper), 3)
        self.assertEqual(judged(paper), chain(1, 3))

    def test_numbers_that_are_no_letters(self):
        for number in (-1, 1, 5, FAR, -FAR):
            for word in ((number,), (0, number), (number,) + (0,) * 599):
                self.is_none((1, CHAIN[1] + (word,)) + CHAIN[2:])
                self.is_none(CHAIN[:2] + (CHAIN[2] + (word,),) + CHAIN[3:])
                self.is_none(CHAIN[:3] + (CHAIN[3] + ((word, 0),),))
                heard = tuple((row + end, 7) for row in ((), word) for end in ((), word))
                self.is_none((1, (word,), ((),), heard))
                self.is_none((1, ((),), (word,), heard))
                self.is_none((1, (word,), (), ()))

    def test_a_letter_of_another_count(self):
        heard = CHAIN[3] + (((5,), 3),)
        self.is_none((5,) + CHAIN[1:3] + (heard,))
        self.assertEqual(at_least((6,) + CHAIN[1:3] + (heard,)), 3)

    def test_a_word_heard_twice(self):
        more = CHAIN[3] + (((0,) * 9, 4), ((0,) * 600, 4))
        for word, mark in more:
            for again in (mark, mark + 1):
                self.is_none(CHAIN[:3] + (more + ((word, again),),))
                self.is_none(CHAIN[:3] + (((word, again),) + more,))

    def test_other_words_heard_are_no_harm(self):
        paper = CHAIN[:3] + ((((0,) * 600, 8),) + CHAIN[3] + (((0,) * 9, 4),),)
        self.assertEqual(at_least(paper), 3)
        self.assertEqual(judged(paper), chain(1, 3))

    def test_a_word_not_heard(self):
        for place, pair in enumerate(CHAIN[3]):
            paper = CHAIN[:3] + (CHAIN[3][:place] + CHAIN[3][place + 1:],)
            if pair[0] == (0,) * 4:
                self.counts_but_is_not_whole(paper)
            else:
                self.is_none(paper)

    def test_marks_alike(self):
        self.is_none((1, CHAIN[1], ((),)) + CHAIN[3:])
        self.is_none((1, CHAIN[1] + ((0, 0, 0),)) + CHAIN[2:])
        self.is_none((1, ((), (0,)), ((),), (((), 0), ((0,), 0), ((0, 0), 0))))

    def test_a_mark_of_nought_was_heard(self):
        self.assertEqual(at_least((1, ((),), ((),), (((), 0),))), 1)
        self.assertEqual(judged((1, ((),), ((),), (((), 0), ((0,), 0)))), (1, (0,), ((0,),)))

    def test_least_and_greatest_mark(self):
        house = (1, (0, TOP), ((1,), (0,)))
        paper = (1, ((), (0,)), ((),), (((0, 0), 0), ((0,), TOP), ((), 0)))
        self.assertEqual(at_least(paper), 2)
        self.assertEqual(judged(paper), house)

    def test_access_words_in_any_order_count(self):
        for access in itertools.permutations(CHAIN[1]):
            paper = (1, access) + CHAIN[2:]
            self.assertEqual(at_least(paper), 3)
            self.check(paper)

    def test_forty_access_words(self):
        house = chain(1, 40)
        access = tuple((0,) * count for count in range(40))
        heard = tuple(((0,) * count, answer(house, (0,) * count)) for count in range(80))
        paper = (1, access, access, heard)
        self.assertEqual(at_least(paper), 40)
        self.assertEqual(judged(paper), house)
        self.is_none((1, access, access[:38], heard))
        self.is_none((1, access, access, heard[:78]))
        self.counts_but_is_not_whole((1, access, access, heard[:79]))

    def test_the_longest_words(self):
        end = (0,) * 599
        heard = ((end, 1), ((0,) + end, 2))
        self.assertEqual(at_least((1, ((), (0,)), (end,), heard)), 2)
        self.is_none((1, ((), (0,)), (end,), heard[:1]))
        self.is_none((1, ((), (0,)), (end,), (heard[0], ((0,) + end, 1))))


class WholeTest(PaperTest):
    def test_the_first_access_word_is_empty(self):
        heard = tuple((word, len(word)) for word in words_by_hand(1, 9))
        self.counts_but_is_not_whole((1, ((0,), (0, 0)), ((),), heard))
        self.counts_but_is_not_whole((1, ((0,), ()), ((),), heard[:3]))
        self.counts_but_is_not_whole((1, ((0,),), ((),), (((0,), 3), ((0, 0), 3))))

    def test_each_other_one_is_an_earlier_one_and_a_letter(self):
        house = chain(1, 3, (0, 1, 2))
        heard = tuple((word, answer(house, word)) for word in words_by_hand(1, 9))
        for access in itertools.permutations(CHAIN[1]):
            paper = (1, access, ((),), heard)
            if access == CHAIN[1]:
                self.assertEqual(judged(paper), house)
            else:
                self.counts_but_is_not_whole(paper)
        # The last room stands for (0, 0) as well as for any longer word.
        self.counts_but_is_not_whole((1, ((), (0,), (0, 0, 0)), ((),), heard))

    def test_the_first_telling_word_is_empty(self):
        self.counts_but_is_not_whole(CHAIN[:2] + (((0,), ()),) + CHAIN[3:])
        self.counts_but_is_not_whole((1, ((),), ((0,),), (((0,), 1), ((0, 0), 1), ((), 1))))

    def test_rows_with_the_marks_of_no_access_word(self):
        self.counts_but_is_not_whole((1, ((), (0,)), ((), (0,)), CHAIN[3]))
        for mark in (2, TOP):
            heard = CHAIN[3][:4] + (((0,) * 4, mark),)
            self.counts_but_is_not_whole(CHAIN[:3] + (heard,))

    def test_rows_not_heard(self):
        words = words_by_hand(2, 3)
        access = ((), (0,), (1,))
        whole = (2, access, ((),), tuple((word, answer(THREE, word)) for word in words))
        self.assertEqual(judged(whole), THREE)
        for lacking in words:
            heard = tuple(pair for pair in whole[3] if pair[0] != lacking)
            paper = (2, access, ((),), heard)
            if len(lacking) < 2:
                self.is_none(paper)
            elif len(lacking) == 2:
                self.counts_but_is_not_whole(paper)
            else:
                self.assertEqual(judged(paper), THREE)

    def test_the_house_is_one_that_made_takes(self):
        for house in random_houses(72, 20, most_letters=6, most_rooms=12):
            told = judged(paper_of(last(house, 12)))
            self.assertEqual(made(*told), told)

    def test_rooms_in_the_order_of_the_access_words(self):
        words = words_by_hand(2, 2)
        heard = tuple((word, answer(THREE, word)) for word in words)
        self.assertEqual(
            judged((2, ((), (1,), (0,)), ((),), heard)), (2, (5, 9, 0), ((2, 1), (0, 2), (1, 2)))
        )

    def test_papers_that_were_changed_a_bit(self):
        chance = random.Random(73)
        for house in random_houses(74, 12, most_letters=2, most_rooms=4):
            paper = paper_of(last(house, 4))
            for number in range(60):
                self.check(changed(chance, paper))


def changed(chance, paper):
    parts = [paper[0]] + [list(part) for part in paper[1:]]
    part = chance.randint(1, 3)
    place = chance.randrange(len(parts[part]))
    thing = parts[part][place]
    deed = chance.randrange(4)
    if deed == 0:
        parts[part].pop(place)
    elif deed == 1:
        parts[part].append(thing)
    elif deed == 2:
        chance.shuffle(parts[part])
    elif part == 3:
        parts[3][place] = (thing[0], 1 - thing[1])
    else:
        parts[part][place] = thing + (chance.choice((0, 0, paper[0])),)
    return tuple([parts[0]] + [tuple(some) for some in parts[1:]])


class ProofTest(PaperTest):
    """[5.5], looked at in all houses of some sizes."""

    def answers(self, house, paper):
        return all(answer(house, word) == mark for word, mark in paper[3])

    def look(self, paper, others):
        count = at_least(paper)
        house = judged(paper) if is_whole_by_hand(paper) else None
        for other in others:
            if self.answers(other, paper):
                rooms = len(reached_by_hand(other))
                self.assertGreaterEqual(rooms, count)
                if house is not None and rooms <= count:
                    self.assertNotIn((0, 0), pairs_told_apart(house, other))

    def test_one_letter(self):
        others = [house for rooms in range(1, 5) for house in all_houses(1, rooms, (0, 1))]
        for house in all_houses(1, 3, (0, 1)):
            for most in (1, 2, 3):
                self.look(paper_of(last(house, most)), others[::3])

    def test_two_letters(self):
        others = [house for rooms in range(1, 4) for house in all_houses(2, rooms, (0, 1))]
        for house in others[::511]:
            for most in (1, 2, 3):
                self.look(paper_of(last(house, most)), others)


if __name__ == "__main__":
    unittest.main()
