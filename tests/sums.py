"""Sum houses for the tests, and what can be told of them by hand, without the program."""

import random

from samples import GREAT, PRIMES


def row_by_hand(house, word):
    p, letters, first, tables, last = house
    row = list(first)
    for letter in word:
        made = [0] * len(row)
        for factor, other in zip(row, tables[letter]):
            for place, number in enumerate(other):
                made[place] = (made[place] + factor * number) % p
        row = made
    return tuple(row)


def worth_by_hand(house, word):
    pairs = zip(row_by_hand(house, word), house[4])
    return sum(one * two for one, two in pairs) % house[0]


def rank_by_hand(p, rows):
    """The rank, by clearing column for column."""
    rows = [list(row) for row in rows]
    rank = 0
    for place in range(len(rows[0]) if rows else 0):
        found = [k for k in range(rank, len(rows)) if rows[k][place] % p]
        if not found:
            continue
        rows[rank], rows[found[0]] = rows[found[0]], rows[rank]
        back = pow(rows[rank][place], -1, p)
        for k in range(rank + 1, len(rows)):
            factor = rows[k][place] * back
            rows[k] = [(one - factor * two) % p for one, two in zip(rows[k], rows[rank])]
        rank += 1
    return rank


def random_row(chance, p, size, rare=2):
    """Every so many numbers one is 0."""
    return tuple(chance.choice((chance.randrange(p),) * rare + (0,)) for k in range(size))


def random_sums(chance, p, letters, size, rare=2):
    tables = tuple(
        tuple(random_row(chance, p, size, rare) for k in range(size)) for letter in range(letters)
    )
    first = random_row(chance, p, size, rare)
    return (p, letters, first, tables, random_row(chance, p, size, rare))


def many_sums(seed, count, most_letters=3, most_size=5, primes=PRIMES, rare=2):
    chance = random.Random(seed)
    return [
        random_sums(
            chance, chance.choice(primes), chance.randint(1, most_letters),
            chance.randint(0, most_size), rare,
        )
        for number in range(count)
    ]


def nothing(p, letters, size=0):
    """Every word is worth 0."""
    noughts = (0,) * size
    return (p, letters, noughts, ((noughts,) * size,) * letters, noughts)


def counter(p, letters):
    """A word is worth how often its last letter stands in it."""
    stay = ((1, 0), (0, 1))
    return (p, letters, (1, 0), (stay,) * (letters - 1) + (((1, 1), (0, 1)),), (0, 1))


def late(p, letters, size):
    """Only words with just size - 1 times the last letter are worth something, namely p - 1."""
    stay = tuple(tuple(int(k == place) for k in range(size)) for place in range(size))
    on = tuple(tuple(int(k == place + 1) for k in range(size)) for place in range(size))
    first = (1,) + (0,) * (size - 1)
    last = (0,) * (size - 1) + (p - 1,)
    return (p, letters, first, (stay,) * (letters - 1) + (on,), last)


def wheel(p, letters, size):
    """Words with size - 1, 2 * size - 1, .. times the last letter are worth p - 1."""
    house = late(p, letters, size)
    on = tuple(tuple(int(k == (place + 1) % size) for k in range(size)) for place in range(size))
    return house[:3] + (house[3][:-1] + (on,),) + house[4:]


def padded(house, chance):
    """The same worths with more numbers in the rows: some that never count, some never reached."""
    p, letters, first, tables, last = house
    size = len(first)
    wide = tuple(
        tuple(row + (chance.randrange(p), 0) for row in table)
        + ((0,) * size + (chance.randrange(p), 0),)
        + (random_row(chance, p, size) + (chance.randrange(p), chance.randrange(p)),)
        for table in tables
    )
    return (p, letters, first + (chance.randrange(p), 0), wide, last + (0, chance.randrange(p)))


GREATEST = random_sums(random.Random(150), GREAT, 6, 16)
