"""[0.2], [0.5], [8.7] to [8.9] and the interface's guessroom/sumpapers.py."""

import copy
import itertools
import random
import unittest

from guessroom.errors import NoPaper
from guessroom.sumasker import SumAsker
from guessroom.sumhouse import made_sums
from guessroom.sumleast import sums_alike, sums_difference, sums_least
from guessroom.sumpapers import sum_at_least, sum_judged, sum_paper, sum_undone
from hunts import scattered, state
from refusals import RefusalTest
from samples import FAR, GREAT, PRIMES, words_by_hand
from sums import counter, late, many_sums, nothing, random_sums, rank_by_hand, worth_by_hand

# What counter(5, 1) tells: a word's count of letters, by 5.
COUNT = (
    5, 1, ((), (0,)), ((), (0,)),
    (((), 0), ((0,), 1), ((0, 0), 2), ((0, 0, 0), 3)),
)
HOUSE = (5, 1, (1, 0), (((0, 1), (4, 2)),), (0, 1))


def steps(house, most):
    """An asker that the house leads, told after each deed."""
    asker = SumAsker(house[0], house[1], most)
    yield asker
    while asker.wants()[0] in ("ask", "show"):
        kind, thing = asker.wants()
        word = thing if kind == "ask" else sums_difference(house, thing)
        if kind == "ask":
            asker.hear(worth_by_hand(house, word))
        elif word is None:
            asker.agree()
        else:
            asker.differ(word, worth_by_hand(house, word))
        yield asker


def last(house, most):
    for asker in steps(house, most):
        pass
    return asker


def numbers_by_hand(paper, word):
    found = []
    for end in paper[3]:
        numbers = [number for heard, number in paper[4] if heard == word + end]
        found.append(numbers[0] if numbers else None)
    return found


def counts_by_hand(paper):
    p, letters, access, ends, heard = paper
    words = [word for word, number in heard]
    if len(set(words)) < len(words) or len(ends) != len(access):
        return False
    if not all(0 <= number < p for word, number in heard):
        return False
    for word in list(access) + list(ends) + words:
        if not all(letter in range(letters) for letter in word):
            return False
    rows = [numbers_by_hand(paper, word) for word in access]
    return all(None not in row for row in rows) and rank_by_hand(p, rows) == len(rows)


def is_whole_by_hand(paper):
    p, letters, access, ends, heard = paper
    if not counts_by_hand(paper) or (access and access[0] != ()):
        return False
    words = dict(heard)
    rows = [numbers_by_hand(paper, word + (k,)) for word in access for k in range(letters)]
    return all(word in words for word in access) and all(None not in row for row in rows)


class PaperTest(RefusalTest):
    def check(self, paper):
        kept = copy.deepcopy(paper)
        if counts_by_hand(paper):
            self.assertEqual(sum_at_least(paper), len(paper[2]))
            self.check_undone(paper)
        else:
            self.assert_refused(NoPaper, sum_at_least, paper)
            self.assert_refused(NoPaper, sum_undone, paper)
        if is_whole_by_hand(paper):
            self.check_house(paper)
        else:
            self.assert_refused(NoPaper, sum_judged, paper)
        self.assertEqual(paper, kept)

    def made(self, paper, parts):
        rows = [numbers_by_hand(paper, word) for word in paper[2]]
        return [
            sum(part * row[place] for part, row in zip(parts, rows)) % paper[0]
            for place in range(len(rows))
        ]

    def check_undone(self, paper):
        told = sum_undone(paper)
        size = len(paper[2])
        self.assertEqual((type(told), len(told)), (list, size))
        for place, parts in enumerate(told):
            self.assertEqual((type(parts), len(parts)), (list, size))
            self.assertTrue(all(0 <= part < paper[0] for part in parts))
            self.assertEqual(self.made(paper, parts), [int(k == place) for k in range(size)])

    def check_house(self, paper):
        told = sum_judged(paper)
        self.assertEqual(made_sums(*told), told)
        p, letters, first, tables, last_row = told
        access = paper[2]
        size = len(access)
        self.assertEqual((p, letters), paper[:2])
        self.assertEqual(first, ((1,) + (0,) * size)[:size])
        self.assertEqual(last_row, tuple(dict(paper[4])[word] for word in access))
        for letter, table in enumerate(tables):
            for word, parts in zip(access, table):
                due = numbers_by_hand(paper, word + (letter,))
                self.assertEqual(self.made(paper, parts), due)

    def counts_but_is_not_whole(self, paper):
        self.assertEqual(sum_at_least(paper), len(paper[2]))
        self.assert_refused(NoPaper, sum_judged, paper)
        self.check(paper)

    def is_none(self, paper):
        for function in (sum_at_least, sum_undone, sum_judged):
            self.assert_refused(NoPaper, function, paper)
        self.check(paper)


class PaperOfTest(PaperTest):
    def test_an_asker_that_was_told_nothing(self):
        for p in PRIMES:
            paper = sum_paper(SumAsker(p, 3, 8))
            self.assertEqual(paper, (p, 3, (), (), ()))
            self.assertEqual(sum_at_least(paper), 0)
            self.assertEqual(sum_undone(paper), [])
            self.assertEqual(sum_judged(paper), nothing(p, 3))
            self.check(paper)

    def test_after_each_deed(self):
        for house in (counter(5, 2), late(2, 1, 8), nothing(7, 6), counter(GREAT, 6)):
            for most in (1, 2, 8):
                for asker in steps(house, most):
                    before = state(asker)
                    paper = sum_paper(asker)
                    self.assertEqual(state(asker), before)
                    over = [asker.wants()[1]] if asker.wants()[0] == "spent" else []
                    due = (asker.access() + over, asker.tellers(), asker.heard())
                    self.assertEqual(paper, house[:2] + tuple(tuple(row) for row in due))
                    self.check(paper)

    def test_what_it_proves_at_the_end(self):
        for house in many_sums(201, 30, 4, 5):
            for most in (1, 3, 8):
                asker = last(house, most)
                paper = sum_paper(asker)
                if asker.wants()[0] == "spent":
                    self.assertEqual(sum_at_least(paper), most + 1)
                else:
                    self.assertEqual(sum_judged(paper), asker.wants()[1])
                    self.assertEqual(sum_at_least(paper), len(asker.access()))
                    self.assertTrue(sums_alike(sum_judged(paper), house))
                self.assertLessEqual(sum_at_least(paper), len(sums_least(house)[2]))
                self.check(paper)

    def test_numbers_that_no_house_tells(self):
        for p in (2, GREAT):
            asker = SumAsker(p, 2, 4)
            while asker.wants()[0] in ("ask", "show"):
                kind, thing = asker.wants()
                if kind == "ask":
                    asker.hear(scattered(thing, p))
                else:
                    word = (1,) * (20 + len(asker.access()))
                    asker.differ(word, (worth_by_hand(thing, word) + 1) % p)
            self.assertEqual(asker.wants()[0], "spent")
            self.assertEqual(sum_at_least(sum_paper(asker)), 5)

    def test_a_paper_stays_as_it_was(self):
        asker = SumAsker(7, 2, 3)
        asker.differ((0,), 5)
        paper = sum_paper(asker)
        kept = copy.deepcopy(paper)
        asker.hear(6)
        self.assertEqual(paper, kept)
        self.assertEqual([type(part) for part in paper[2:]], [tuple] * 3)


class CountsTest(PaperTest):
    def test_by_hand(self):
        self.assertEqual(sum_at_least(COUNT), 2)
        self.assertEqual(sum_undone(COUNT), [[3, 1], [1, 0]])
        self.assertEqual(sum_judged(COUNT), HOUSE)
        self.check(COUNT)

    def test_no_access_words(self):
        for heard in ((), COUNT[4]):
            paper = (5, 1, (), (), heard)
            self.assertEqual(sum_at_least(paper), 0)
            self.assertEqual(sum_judged(paper), nothing(5, 1))
            self.check(paper)
            self.is_none((5, 1, (), ((),), heard))
        self.is_none((5, 1, (), (), (((), 5),)))
        self.is_none((5, 1, (), (), (((1,), 0),)))

    def test_a_word_heard_twice(self):
        more = COUNT[4] + (((0,) * 600, 4),)
        for word, number in more:
            for again in (number, (number + 1) % 5):
                self.is_none(COUNT[:4] + (more + ((word, again),),))
                self.is_none(COUNT[:4] + (((word, again),) + more,))

    def test_numbers_that_are_no_letters(self):
        for number in (-1, 1, 5, FAR, -FAR):
            for word in ((number,), (0, number), (number,) + (0,) * 599):
                self.is_none(COUNT[:4] + (COUNT[4] + ((word, 0),),))
                heard = tuple((row + end, 1) for row in ((), word) for end in ((), word))
                self.is_none((5, 1, (word,), ((),), heard))
                self.is_none((5, 1, ((),), (word,), heard))
                self.is_none((5, 1, ((), word), ((), word), heard))

    def test_a_letter_of_another_count(self):
        heard = COUNT[4] + (((5,), 3),)
        self.is_none((5, 5) + COUNT[2:4] + (heard,))
        self.assertEqual(sum_at_least((5, 6) + COUNT[2:4] + (heard,)), 2)

    def test_numbers_heard_below_0_and_not_below_p(self):
        for p in PRIMES:
            good = (p, 1, ((),), ((),), (((), 1), ((0,), p - 1)))
            self.assertEqual(sum_judged(good), (p, 1, (1,), (((p - 1,),),), (1,)))
            for wrong in (-1, p, p + 1, FAR, -FAR):
                self.is_none(good[:4] + ((((), 1), ((0,), wrong)),))
                self.is_none(good[:4] + ((((), wrong), ((0,), 1)),))
                self.is_none(good[:4] + (good[4] + (((0,) * 9, wrong),),))

    def test_unlike_counts_of_words(self):
        self.is_none(COUNT[:3] + (((),),) + COUNT[4:])
        self.is_none(COUNT[:3] + (((), (0,), (0, 0)),) + COUNT[4:])
        self.is_none(COUNT[:2] + (((),),) + COUNT[3:])
        self.is_none(COUNT[:2] + (((), (0,), (0, 0)),) + COUNT[3:])

    def test_a_word_not_heard(self):
        for place, pair in enumerate(COUNT[4]):
            paper = COUNT[:4] + (COUNT[4][:place] + COUNT[4][place + 1:],)
            if pair[0] == (0,) * 3:
                self.counts_but_is_not_whole(paper)
            else:
                self.is_none(paper)

    def test_rows_that_are_not_free(self):
        self.is_none((5, 1, ((), (0,)), ((), (0,)), tuple(((0,) * k, 2) for k in range(4))))
        self.is_none((5, 1, ((), (0,)), ((), (0,)), tuple(((0,) * k, 2 ** k % 5) for k in range(4))))
        self.is_none((5, 1, ((),), ((),), (((), 0), ((0,), 1))))
        self.is_none(COUNT[:2] + (((), ()),) + COUNT[3:])
        self.is_none(COUNT[:3] + (((0,), (0,)),) + COUNT[4:])
        # Free by one prime and not by another.
        heard = (((), 1), ((0,), 1), ((0, 0), 3), ((0, 0, 0), 1))
        self.is_none((2,) + COUNT[1:4] + ((((), 1), ((0,), 1), ((0, 0), 1), ((0, 0, 0), 1)),))
        self.assertEqual(sum_at_least((7,) + COUNT[1:4] + (heard,)), 2)

    def test_sixteen_access_words(self):
        for p in (2, GREAT):
            house = late(p, 1, 16)
            access = tuple((0,) * count for count in range(16))
            heard = tuple(((0,) * count, worth_by_hand(house, (0,) * count)) for count in range(40))
            paper = (p, 1, access, access, heard)
            self.assertEqual(sum_at_least(paper), 16)
            self.assertTrue(sums_alike(sum_judged(paper), house))
            self.check(paper)
            self.is_none((p, 1, access, access[:15], heard))
            self.counts_but_is_not_whole((p, 1, access, access, heard[:31]))
            self.is_none((p, 1, access, access, heard[:30]))


class WholeTest(PaperTest):
    def test_the_first_access_word_is_empty(self):
        heard = tuple(((0,) * k, k % 5) for k in range(9))
        self.counts_but_is_not_whole((5, 1, ((0,), ()), ((), (0,)), heard))
        self.counts_but_is_not_whole((5, 1, ((0,), (0, 0)), ((), (0,)), heard))
        self.counts_but_is_not_whole((5, 1, ((0,),), ((),), heard))

    def test_other_access_words_may_be_any(self):
        heard = tuple(((0,) * k, k % 5) for k in range(9))
        paper = (5, 1, ((), (0, 0, 0)), ((0,), ()), heard)
        self.check(paper)
        self.assertEqual(sum_judged(paper)[4], (0, 3))

    def test_an_access_word_not_heard(self):
        heard = tuple(((0,) * k, k % 5) for k in range(9))
        paper = (5, 1, ((), (0,)), ((0,), (0, 0)), heard)
        self.assertEqual(sum_judged(paper), HOUSE)
        self.counts_but_is_not_whole(paper[:4] + (heard[1:],))

    def test_rows_not_heard(self):
        house = counter(7, 2)
        words = words_by_hand(2, 3)
        heard = tuple((word, worth_by_hand(house, word)) for word in words)
        whole = (7, 2, ((), (1,)), ((), (1,)), heard)
        self.assertEqual(sum_judged(whole), sums_least(house))
        for lacking in words:
            rest = tuple(pair for pair in heard if pair[0] != lacking)
            self.check(whole[:4] + (rest,))
            rows = [(), (1,), (0,), (1, 0), (1, 1)]
            if lacking in [row + end for row in rows for end in ((), (1,))]:
                self.assert_refused(NoPaper, sum_judged, whole[:4] + (rest,))
            else:
                self.assertEqual(sum_judged(whole[:4] + (rest,)), sums_least(house))

    def test_papers_that_were_changed_a_bit(self):
        chance = random.Random(202)
        for house in many_sums(203, 15, 2, 3, (2, 3, 7)):
            paper = sum_paper(last(house, 3))
            for number in range(40):
                self.check(changed(chance, paper))

    def test_a_house_that_tells_so_has_as_many_numbers(self):
        """[8.9], of every house with one letter and one number by 2 and by 3, and chance ones."""
        chance = random.Random(204)
        for number in range(300):
            p = chance.choice((2, 3))
            size = chance.randint(1, 2)
            paper = sum_paper(last(random_sums(chance, p, 1, size), 3))
            count = sum_at_least(paper)
            judged = sum_judged(paper)
            for numbers in itertools.islice(itertools.product(range(p), repeat=3), 27):
                other = (p, 1, numbers[:1], ((numbers[1:2],),), numbers[2:])
                if all(worth_by_hand(other, word) == told for word, told in paper[4]):
                    self.assertLessEqual(count, 1)
                    if count == 1:
                        self.assertTrue(sums_alike(other, judged))

    def test_lists_are_their_askers_own(self):
        self.assert_own_list(sum_undone, COUNT)
        kept = sum_undone(COUNT)
        sum_undone(COUNT)[0].clear()
        self.assertEqual(sum_undone(COUNT), kept)


def changed(chance, paper):
    parts = list(paper[:2]) + [list(part) for part in paper[2:]]
    part = chance.randint(2, 4)
    if not parts[part]:
        parts[part].append(() if part < 4 else ((0,), 1))
        return tuple(parts[:2]) + tuple(tuple(row) for row in parts[2:])
    place = chance.randrange(len(parts[part]))
    thing = parts[part][place]
    deed = chance.randrange(4)
    if deed == 0:
        parts[part].pop(place)
    elif deed == 1:
        parts[part].append(thing)
    elif deed == 2:
        chance.shuffle(parts[part])
    elif part == 4:
        parts[4][place] = (thing[0], chance.randint(-1, paper[0]))
    else:
        parts[part][place] = thing + (0,)
    return tuple(parts[:2]) + tuple(tuple(row) for row in parts[2:])


if __name__ == "__main__":
    unittest.main()
