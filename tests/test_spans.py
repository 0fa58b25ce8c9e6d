"""[0.2], [7.3] and the interface's guessroom/spans.py."""

import copy
import itertools
import random
import unittest

from guessroom.spans import chosen, factors, free, gauge, made_of, rank
from refusals import RefusalTest
from samples import GREAT, PRIMES


def times(p, row, other):
    return sum(one * two for one, two in zip(row, other)) % p


def made_by_hand(p, rows, parts, size):
    row = [0] * size
    for part, other in zip(parts, rows):
        for place in range(size):
            row[place] = (row[place] + part * other[place]) % p
    return tuple(row)


def all_ways(p, rows, row):
    """Every list of factors by which the row is made of the rows: for small primes alone."""
    return [
        list(parts) for parts in itertools.product(range(p), repeat=len(rows))
        if made_by_hand(p, rows, parts, len(row)) == tuple(row)
    ]


def random_rows(chance, p, count, size, rare=1):
    """Rows of numbers, some of them made of the others."""
    rows = []
    for number in range(count):
        if rows and chance.randrange(3) < rare:
            parts = [chance.randrange(p) for row in rows]
            rows.append(made_by_hand(p, rows, parts, size))
        else:
            rows.append(tuple(chance.choice((0, chance.randrange(p))) for k in range(size)))
    return rows


def free_rows(chance, p, count, size):
    """Rows with a 1 of their own, behind which chance numbers stand, mixed with one another."""
    places = sorted(chance.sample(range(size), count))
    rows = []
    for place in places:
        tail = [chance.randrange(p) for k in range(size - place - 1)]
        rows.append([0] * place + [1] + tail)
    for number in range(count):
        for other in range(number):
            factor = chance.randrange(p)
            pairs = zip(rows[number], rows[other])
            rows[number] = [(one + factor * two) % p for one, two in pairs]
    chance.shuffle(rows)
    return [tuple(row) for row in rows]


class SpanTest(RefusalTest):
    def check_gauge(self, p, rows, row):
        kept = copy.deepcopy((rows, row))
        told = gauge(p, rows, row)
        self.assertEqual((rows, row), kept)
        if told is not None:
            self.assertIs(type(told), tuple)
            self.assertEqual(len(told), len(row))
            self.assertTrue(all(0 <= number < p for number in told))
            self.assertEqual(times(p, told, row), 1)
            for other in rows:
                self.assertEqual(times(p, told, other), 0)
        return told

    def check_small(self, p, rows, row):
        """Against every list of factors that there is."""
        ahead = [len(all_ways(p, rows[:k], rows[k])) > 0 for k in range(len(rows))]
        places = [k for k, is_made in enumerate(ahead) if not is_made]
        self.assertEqual(chosen(p, rows), places)
        self.assertEqual(rank(p, rows), len(places))
        self.assertIs(free(p, rows), not any(ahead))
        ways = all_ways(p, rows, row)
        self.assertEqual(self.check_gauge(p, rows, row) is None, len(ways) > 0)
        if free(p, rows):
            self.assertLessEqual(len(ways), 1)
            self.assertEqual(factors(p, rows, row), ways[0] if ways else None)


class SmallTest(SpanTest):
    def test_all_of_the_smallest(self):
        for p, size, count in ((2, 0, 2), (2, 1, 3), (2, 2, 3), (3, 1, 2), (3, 2, 2), (2, 3, 2)):
            every = list(itertools.product(range(p), repeat=size))
            for many in range(count + 1):
                for rows in itertools.product(every, repeat=many):
                    for row in every:
                        self.check_small(p, list(rows), row)

    def test_chance_rows(self):
        chance = random.Random(141)
        for number in range(250):
            p = chance.choice((2, 3, 5))
            size = chance.randint(0, 4)
            rows = random_rows(chance, p, chance.randint(0, 4), size)
            row = random_rows(chance, p, 1, size)[0]
            self.check_small(p, rows, row)
            parts = [chance.randrange(p) for k in rows]
            self.check_small(p, tuple(rows), made_by_hand(p, rows, parts, size))

    def test_by_hand(self):
        rows = [(0, 0), (2, 4), (1, 2), (0, 3), (1, 1)]
        self.assertEqual(chosen(5, rows), [1, 3])
        self.assertEqual(rank(5, rows), 2)
        self.assertIs(free(5, rows), False)
        self.assertIs(free(5, [(2, 4), (0, 3)]), True)
        self.assertEqual(factors(5, [(2, 4), (0, 3)], (1, 1)), [3, 3])
        self.assertIsNone(factors(5, [(2, 4)], (1, 1)))
        self.assertEqual(made_of(5, [(2, 4), (0, 3)], [3, 3], 2), (1, 1))


class EdgeTest(SpanTest):
    def test_no_rows(self):
        for p in PRIMES:
            for none in ([], ()):
                self.assertEqual(chosen(p, none), [])
                self.assertEqual(rank(p, none), 0)
                self.assertIs(free(p, none), True)
                for size in (0, 1, 3, 100):
                    noughts = (0,) * size
                    self.assertEqual(factors(p, none, noughts), [])
                    self.assertIsNone(gauge(p, none, noughts))
                    self.assertEqual(made_of(p, none, [], size), noughts)
                    self.assertEqual(made_of(p, none, (), size), noughts)
                for row in ((1,), (0, p - 1), (0,) * 99 + (1,)):
                    self.assertIsNone(factors(p, none, row))
                    self.assertIsNotNone(self.check_gauge(p, none, row))

    def test_rows_of_no_numbers(self):
        for p in PRIMES:
            for count in (1, 2, 100):
                rows = [()] * count
                self.assertEqual(chosen(p, rows), [])
                self.assertEqual(rank(p, rows), 0)
                self.assertIs(free(p, rows), False)
                self.assertIsNone(gauge(p, rows, ()))
                self.assertEqual(made_of(p, rows, [1] * count, 0), ())
            self.assertEqual(factors(p, [], ()), [])
            self.assertIsNone(gauge(p, [], ()))

    def test_one_row(self):
        for p in PRIMES:
            row = (0, p - 1, 1)
            self.assertEqual(chosen(p, [row]), [0])
            self.assertIs(free(p, [row]), True)
            self.assertEqual(factors(p, [row], row), [1])
            self.assertEqual(factors(p, [row], (0, 0, 0)), [0])
            self.assertEqual(factors(p, [row], (0, 1, p - 1)), [p - 1])
            self.assertIsNone(factors(p, [row], (1, p - 1, 1)))
            self.assertIsNone(gauge(p, [row], row))
            self.assertIsNotNone(self.check_gauge(p, [row], (1, p - 1, 1)))

    def test_rows_of_noughts(self):
        for p in PRIMES:
            noughts = (0, 0, 0)
            self.assertEqual(chosen(p, [noughts, noughts]), [])
            self.assertIs(free(p, [noughts]), False)
            self.assertEqual(chosen(p, [noughts, (0, 1, 0), noughts, (1, 1, 0)]), [1, 3])
            self.assertIsNone(gauge(p, [noughts], noughts))
            self.assertIsNotNone(self.check_gauge(p, [noughts, noughts], (0, 0, p - 1)))

    def test_a_row_that_stands_twice(self):
        for p in PRIMES:
            rows = [(1, 0, 1), (1, 0, 1), (0, 1, 1)]
            self.assertEqual(chosen(p, rows), [0, 2])
            self.assertIs(free(p, rows), False)
            self.assertIsNone(gauge(p, rows, (1, p - 1, 0)))
            self.assertIsNotNone(self.check_gauge(p, rows, (0, 0, 1)))

    def test_the_first_rows_are_chosen(self):
        rows = [(1, 1), (2, 2), (1, 2), (0, 1)]
        self.assertEqual(chosen(7, rows), [0, 2])
        self.assertEqual(chosen(7, rows[::-1]), [0, 1])


class GreatTest(SpanTest):
    def test_chance_rows_of_any_size(self):
        chance = random.Random(142)
        for p in PRIMES:
            for count, size in ((1, 1), (3, 8), (8, 8), (8, 3), (20, 12), (12, 20)):
                for number in range(4):
                    rows = random_rows(chance, p, count, size)
                    places = chosen(p, rows)
                    picked = [rows[place] for place in places]
                    self.assertIs(free(p, picked), True)
                    self.assertEqual(rank(p, rows), len(places))
                    for place, row in enumerate(rows):
                        told = factors(p, picked, row)
                        self.assertEqual(made_by_hand(p, picked, told, size), row)
                        ahead = len([k for k in places if k < place])
                        is_made = factors(p, picked[:ahead], row) is not None
                        self.assertEqual(is_made, place not in places)
                        self.assertIsNone(gauge(p, rows, row))
                        self.assertEqual(gauge(p, rows[:place], row) is None, is_made)
                        self.check_gauge(p, rows[:place], row)

    def test_free_rows_and_their_factors(self):
        chance = random.Random(143)
        for p in PRIMES:
            for count, size in ((1, 1), (1, 5), (4, 4), (5, 9), (16, 16), (30, 40)):
                rows = free_rows(chance, p, count, size)
                self.assertEqual(chosen(p, rows), list(range(count)))
                self.assertIs(free(p, rows), True)
                for number in range(5):
                    parts = [chance.choice((0, 1, p - 1, chance.randrange(p))) for k in rows]
                    row = made_by_hand(p, rows, parts, size)
                    self.assertEqual(made_of(p, rows, parts, size), row)
                    self.assertEqual(made_of(p, tuple(rows), tuple(parts), size), row)
                    self.assertEqual(factors(p, rows, row), parts)
                    self.assertIsNone(gauge(p, rows, row))
                for place in range(count):
                    others = rows[:place] + rows[place + 1:]
                    self.assertIsNone(factors(p, others, rows[place]))
                    self.assertIsNotNone(self.check_gauge(p, others, rows[place]))

    def test_a_hundred_rows_of_a_hundred_numbers(self):
        chance = random.Random(144)
        for p in (2, GREAT):
            rows = free_rows(chance, p, 100, 100)
            self.assertEqual(rank(p, rows), 100)
            parts = [chance.randrange(p) for row in rows]
            row = made_by_hand(p, rows, parts, 100)
            self.assertEqual(factors(p, rows, row), parts)
            self.assertIsNone(gauge(p, rows, row))
            self.assertIsNotNone(self.check_gauge(p, rows[:-1], rows[-1]))
            self.assertEqual(chosen(p, rows[:50] + rows[:50]), list(range(50)))


class OwnTest(SpanTest):
    def test_lists_are_their_askers_own(self):
        rows = [(1, 2), (2, 4), (0, 1)]
        self.assert_own_list(chosen, 7, rows)
        self.assert_own_list(factors, 7, [(1, 2), (0, 1)], (3, 3))
        self.assert_own_list(factors, 7, [], (0, 0))

    def test_what_is_handed_in_stays(self):
        rows = [(1, 2, 0), (2, 4, 1), (0, 1, 5)]
        kept = copy.deepcopy(rows)
        parts = [1, 2, 3]
        chosen(7, rows)
        rank(7, rows)
        free(7, rows)
        factors(7, rows, (1, 1, 1))
        made_of(7, rows, parts, 3)
        gauge(7, rows[:2], rows[2])
        self.assertEqual((rows, parts), (kept, [1, 2, 3]))


if __name__ == "__main__":
    unittest.main()
