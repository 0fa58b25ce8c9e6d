"""[0.2], [0.5], [9.1] to [9.3], [9.5] and the interface's guessroom/nest.py."""

import itertools
import random
import unittest

from guessroom.errors import BadWord
from guessroom.nest import local_word, nested, parts, spread
from refusals import RefusalTest
from rows import parts_by_hand, random_row
from samples import FAR, random_word

SIZES = ((1, 1), (1, 2), (2, 1), (4, 2), (3, 3), (1, 3), (4, 1))


class NestedTest(RefusalTest):
    def check(self, plain, helpers, row):
        due = parts_by_hand(plain, helpers, row)
        self.assertIs(nested(plain, helpers, row), due is not None)
        if due is None:
            self.assert_refused(BadWord, parts, plain, helpers, row)
            self.assert_refused(BadWord, local_word, plain, helpers, row)
        else:
            self.assertEqual(parts(plain, helpers, row), due)
            self.assertEqual(local_word(plain, helpers, row), due[-1][1])

    def test_by_hand(self):
        # One plain letter 0, calls 1 and 2 of the helpers 0 and 1, the end 3.
        row = (0, 2, 0, 1, 3, 3, 0, 1, 2, 3, 0, 3)
        self.assertIs(nested(1, 2, row), True)
        self.assertEqual(local_word(1, 2, row), (0, 2, 0, 1))
        self.assertEqual(
            parts(1, 2, row), [(0, ()), (1, (0, 1)), (1, ()), (0, (2, 0)), (0, (0, 2, 0, 1))]
        )

    def test_the_empty_row(self):
        for plain, helpers in SIZES:
            self.assertIs(nested(plain, helpers, ()), True)
            self.assertEqual(local_word(plain, helpers, ()), ())
            self.assertEqual(parts(plain, helpers, ()), [(0, ())])

    def test_all_short_rows(self):
        for plain, helpers, most in ((1, 1, 7), (1, 2, 5), (2, 1, 5), (2, 2, 4)):
            for count in range(most + 1):
                for row in itertools.product(range(plain + helpers + 1), repeat=count):
                    self.check(plain, helpers, row)

    def test_chance_rows(self):
        chance = random.Random(301)
        for plain, helpers in SIZES:
            for count in (10, 100, 1000):
                row = random_row(chance, plain, helpers, count)
                self.assertIs(nested(plain, helpers, row), True)
                self.check(plain, helpers, row)
                place = chance.randrange(len(row))
                self.check(plain, helpers, row[:place] + row[place + 1:])
                self.check(plain, helpers, row[:place] + (plain + helpers,) + row[place:])
                self.check(plain, helpers, row[:place] + (plain,) + row[place:])

    def test_an_end_without_its_call(self):
        for plain, helpers in SIZES:
            end = plain + helpers
            for row in ((end,), (end, plain), (0, end), (plain, end, end), (plain, end, end, plain)):
                self.assertIs(nested(plain, helpers, row), False)
                self.check(plain, helpers, row)

    def test_a_call_without_its_end(self):
        for plain, helpers in SIZES:
            end = plain + helpers
            for call in range(plain, end):
                for row in ((call,), (0, call), (call, 0), (call, call, end), (call, end, call)):
                    self.assertIs(nested(plain, helpers, row), False)
                    self.check(plain, helpers, row)

    def test_a_number_that_is_no_sign(self):
        for plain, helpers in SIZES:
            end = plain + helpers
            for wrong in (-1, end + 1, -end, FAR, -FAR):
                for row in ((wrong,), (0, wrong), (plain, wrong, end), (plain, end) * 200 + (wrong,)):
                    self.assertIs(nested(plain, helpers, row), False)
                    self.check(plain, helpers, row)

    def test_three_hundred_deep(self):
        for plain, helpers in SIZES:
            end = plain + helpers
            for depth in (300, 310):
                row = (end - 1,) * depth + (0,) + (end,) * depth
                self.assertIs(nested(plain, helpers, row), True)
                self.assertEqual(local_word(plain, helpers, row), (end - 1,))
                due = [(helpers - 1, (0,))] + [(helpers - 1, (end - 1,))] * (depth - 1)
                self.assertEqual(parts(plain, helpers, row), due + [(0, (end - 1,))])
                self.assertIs(nested(plain, helpers, row[:-1]), False)
                self.assertIs(nested(plain, helpers, row + (end,)), False)

    def test_four_thousand_signs(self):
        for plain, helpers in SIZES:
            end = plain + helpers
            self.assertEqual(local_word(plain, helpers, (0,) * 4000), (0,) * 4000)
            row = (plain, end) * 2000
            self.assertEqual(local_word(plain, helpers, row), (plain,) * 2000)
            self.assertEqual(parts(plain, helpers, row), [(0, ())] * 2000 + [(0, (plain,) * 2000)])
            self.assertIs(nested(plain, helpers, row[1:]), False)

    def test_lists_are_their_askers_own(self):
        self.assert_own_list(parts, 1, 1, (0, 1, 0, 2))
        self.assert_own_list(parts, 1, 1, ())


class SpreadTest(unittest.TestCase):
    def test_by_hand(self):
        self.assertEqual(spread(1, 2, (), [(), ()]), ())
        self.assertEqual(
            spread(1, 2, (0, 2, 1, 0, 2), [(0, 0), (1, 3)]),
            (0, 2, 1, 3, 3, 1, 0, 0, 3, 0, 2, 1, 3, 3),
        )

    def test_helpers_that_are_not_called(self):
        self.assertEqual(spread(2, 2, (0, 1), [None, None]), (0, 1))
        self.assertEqual(spread(2, 2, (0, 3, 1), [None, (0,)]), (0, 3, 0, 4, 1))
        self.assertEqual(spread(2, 2, (2, 2), [(), None]), (2, 4, 2, 4))

    def test_its_local_word_is_the_word(self):
        chance = random.Random(302)
        for plain, helpers in SIZES:
            for count in (0, 1, 5, 200, 600):
                word = random_word(chance, plain + helpers, count)
                rows = [random_row(chance, plain, helpers, 3) for j in range(helpers)]
                kept = list(rows)
                told = spread(plain, helpers, word, rows)
                self.assertIs(type(told), tuple)
                self.assertEqual(local_word(plain, helpers, told), word)
                self.assertEqual(rows, kept)
                due = []
                for letter in word:
                    if letter < plain:
                        due.append(letter)
                    else:
                        due += [letter] + list(rows[letter - plain]) + [plain + helpers]
                self.assertEqual(told, tuple(due))


if __name__ == "__main__":
    unittest.main()
