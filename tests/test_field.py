"""[7.1], [7.2] and the interface's guessroom/field.py."""

import itertools
import random
import unittest

from guessroom.errors import NoInverse
from guessroom.field import added, inverse, product, scaled
from refusals import RefusalTest
from samples import GREAT, PRIMES


class InverseTest(RefusalTest):
    def test_by_hand(self):
        self.assertEqual(inverse(2, 1), 1)
        self.assertEqual([inverse(7, number) for number in range(1, 7)], [1, 4, 5, 2, 3, 6])

    def test_all_numbers_of_small_primes(self):
        for p in (2, 3, 5, 7, 11, 13, 97, 101):
            for number in range(1, p):
                told = inverse(p, number)
                self.assertIn(told, range(1, p))
                self.assertEqual(told * number % p, 1)

    def test_great_primes(self):
        chance = random.Random(131)
        for p in (1000003, 2 ** 31 - 1, GREAT):
            numbers = [1, 2, 3, p - 1, p - 2, p // 2, p // 2 + 1]
            for number in numbers + [chance.randrange(1, p) for k in range(300)]:
                self.assertEqual(inverse(p, number), pow(number, -1, p))

    def test_nought(self):
        for p in PRIMES:
            self.assert_refused(NoInverse, inverse, p, 0)


class RowTest(unittest.TestCase):
    def test_by_hand(self):
        self.assertEqual(scaled(7, 3, (1, 2, 6, 0)), (3, 6, 4, 0))
        self.assertEqual(added(7, (1, 2, 6), (6, 2, 6)), (0, 4, 5))
        self.assertEqual(product(7, (1, 2, 6), (3, 5, 6)), 0)
        self.assertEqual(product(7, (1, 2, 6), (3, 5, 5)), 1)
        self.assertEqual(product(2, (1, 1), (1, 1)), 0)

    def test_rows_of_no_numbers(self):
        for p in PRIMES:
            for none in ((), []):
                self.assertEqual(scaled(p, p - 1, none), ())
                self.assertEqual(added(p, none, none), ())
                self.assertEqual(product(p, none, none), 0)

    def test_lists_are_taken_and_tuples_told(self):
        for one, two in itertools.product(((1, 4), [1, 4]), ((3, 4), [3, 4])):
            self.assertEqual(added(5, one, two), (4, 3))
            self.assertIs(type(added(5, one, two)), tuple)
            self.assertEqual(product(5, one, two), 4)
        self.assertEqual(scaled(5, 4, [1, 4]), (4, 1))
        self.assertIs(type(scaled(5, 4, [1, 4])), tuple)

    def test_rows_of_a_hundred_numbers(self):
        chance = random.Random(132)
        for p in PRIMES:
            for count in (1, 99, 100):
                one = [chance.choice((0, 1, p - 1, chance.randrange(p))) for k in range(count)]
                two = [chance.choice((0, 1, p - 1, chance.randrange(p))) for k in range(count)]
                for factor in (0, 1, p - 1, chance.randrange(p)):
                    due = tuple(factor * number % p for number in one)
                    self.assertEqual(scaled(p, factor, one), due)
                sums = tuple((one[k] + two[k]) % p for k in range(count))
                self.assertEqual(added(p, one, tuple(two)), sums)
                due = 0
                for k in range(count):
                    due = (due + one[k] * two[k]) % p
                self.assertEqual(product(p, tuple(one), two), due)

    def test_the_greatest_numbers(self):
        row = (GREAT - 1,) * 100
        self.assertEqual(product(GREAT, row, row), 100)
        self.assertEqual(scaled(GREAT, GREAT - 1, row), (1,) * 100)
        self.assertEqual(added(GREAT, row, row), (GREAT - 2,) * 100)

    def test_lists_stay_as_they_were(self):
        one = [1, 2, 3]
        two = [4, 0, 4]
        scaled(5, 3, one)
        added(5, one, two)
        product(5, one, two)
        self.assertEqual((one, two), ([1, 2, 3], [4, 0, 4]))


if __name__ == "__main__":
    unittest.main()
