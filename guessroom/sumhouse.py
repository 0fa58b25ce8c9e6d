"""Houses whose words are worth sums by a prime: (p, letters, first, tables, last)."""

from guessroom.errors import BadHouse
from guessroom.field import product, scaled
from guessroom.house import check_letters
from guessroom.spans import made_of
from guessroom.words import check_word

MOST_NUMBERS = 16
PRIMES_END = 1000000000000000000


def is_number(p, number):
    return 0 <= number < p


def check_prime(p):
    if not 2 <= p < PRIMES_END:
        raise BadHouse("p is at least 2 and below 10 ** 18")


def check_size(size):
    if size > MOST_NUMBERS:
        raise BadHouse("a row has at most 16 numbers")


def check_row(p, size, row):
    if len(row) != size:
        raise BadHouse("all rows have as many numbers")
    if not all([is_number(p, number) for number in row]):
        raise BadHouse("a number is from 0 to p - 1")


def check_tables(p, letters, size, tables):
    if len(tables) != letters:
        raise BadHouse("each letter has one table")
    for table in tables:
        if len(table) != size:
            raise BadHouse("a table has as many rows as a row has numbers")
        for row in table:
            check_row(p, size, row)


def made_sums(p, letters, first, tables, last):
    size = len(first)
    check_letters(letters)
    check_prime(p)
    check_size(size)
    check_row(p, size, first)
    check_row(p, size, last)
    check_tables(p, letters, size, tables)
    rows = [tuple([tuple(row) for row in table]) for table in tables]
    return (p, letters, tuple(first), tuple(rows), tuple(last))


def stepped(house, row, letter):
    return made_of(house[0], house[3][letter], row, len(row))


# The rows behind the word's first letters: behind none of them, behind one, and so on.
def rows_along(house, word):
    check_word(house[1], word)
    rows = [house[2]]
    for letter in word:
        rows.append(stepped(house, rows[-1], letter))
    return rows


def row_behind(house, word):
    return rows_along(house, word)[-1]


def worth(house, word):
    return product(house[0], house[4], row_behind(house, word))


def check_as_many(house, other):
    if house[:2] != other[:2]:
        raise BadHouse("the two houses have not the same p and as many letters")


def table_less(table, other):
    left = (0,) * len(table)
    right = (0,) * len(other)
    return tuple([row + right for row in table] + [left + row for row in other])


# Of houses with the same p and as many letters, whatever the count of numbers becomes.
def less_of(house, other):
    tables = tuple([table_less(one, two) for one, two in zip(house[3], other[3])])
    last = house[4] + scaled(house[0], -1, other[4])
    return (house[0], house[1], house[2] + other[2], tables, last)


def sums_less(house, other):
    check_as_many(house, other)
    check_size(len(house[2]) + len(other[2]))
    return less_of(house, other)


def row_times(p, row, other):
    numbers = []
    for number in row:
        numbers.extend(scaled(p, number, other))
    return tuple(numbers)


def table_times(p, table, other):
    rows = []
    for row in table:
        rows.extend([row_times(p, row, two) for two in other])
    return tuple(rows)


def sums_times(house, other):
    check_as_many(house, other)
    check_size(len(house[2]) * len(other[2]))
    p = house[0]
    tables = tuple([table_times(p, one, two) for one, two in zip(house[3], other[3])])
    return (p, house[1], row_times(p, house[2], other[2]), tables, row_times(p, house[4], other[4]))


def table_back(table):
    return tuple([tuple([row[place] for row in table]) for place in range(len(table))])


def sums_back(house):
    tables = tuple([table_back(table) for table in house[3]])
    return (house[0], house[1], house[4], tables, house[2])
