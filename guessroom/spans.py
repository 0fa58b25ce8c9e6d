"""Rows made of other rows by factors, by a prime p."""

from guessroom.field import added, inverse, product, scaled


def place_of_first(row):
    for place, number in enumerate(row):
        if number != 0:
            return place
    return None


# bases has rows by places: each has 1 at its own place, where all others have 0. What is left of
# a row has 0 at each of these places.
def left_of(p, bases, row):
    left = tuple([number % p for number in row])
    for place, base in bases.items():
        if left[place] != 0:
            left = added(p, left, scaled(p, -left[place], base))
    return left


# The bases with one more for what is left of a row, which is not 0 at the place.
def with_base(p, bases, left, place):
    base = scaled(p, inverse(p, left[place]), left)
    more = {}
    for other in bases:
        more[other] = left_of(p, {place: base}, bases[other])
    more[place] = base
    return more


# A pair: the places of the rows that are chosen, and bases for all rows. Of each row the first
# size numbers alone are looked at; what stands behind them tells how the row is made.
def chosen_and_bases(p, rows, size):
    places = []
    bases = {}
    for number, row in enumerate(rows):
        left = left_of(p, bases, row)
        place = place_of_first(left[:size])
        if place is not None:
            places.append(number)
            bases = with_base(p, bases, left, place)
    return (places, bases)


def size_of(rows):
    return max([len(row) for row in rows], default=0)


def chosen(p, rows):
    return chosen_and_bases(p, rows, size_of(rows))[0]


def rank(p, rows):
    return len(chosen(p, rows))


def free(p, rows):
    return rank(p, rows) == len(rows)


def unit(size, place):
    return tuple([1 if other == place else 0 for other in range(size)])


# Behind each row stands which of the rows it is, so that behind what is left of a row it stands
# what was taken away.
def factors_of_each(p, rows, some, size):
    count = len(rows)
    marked = [tuple(row) + unit(count, place) for place, row in enumerate(rows)]
    bases = chosen_and_bases(p, marked, size)[1]
    told = []
    for row in some:
        left = left_of(p, bases, tuple(row) + (0,) * count)
        is_made = place_of_first(left[:size]) is None
        told.append([-number % p for number in left[size:]] if is_made else None)
    return told


def factors(p, rows, row):
    return factors_of_each(p, rows, [row], len(row))[0]


def made_of(p, rows, parts, size):
    return tuple([product(p, parts, [row[place] for row in rows]) for place in range(size)])


# At the place where something is left of the row the gauge makes 1 of it; at the bases' places
# it takes away what that makes of them; it is 0 elsewhere, and what is left of the row is 0 there.
def gauge(p, rows, row):
    bases = chosen_and_bases(p, rows, len(row))[1]
    left = left_of(p, bases, row)
    own = place_of_first(left)
    if own is None:
        return None
    numbers = [0] * len(row)
    numbers[own] = inverse(p, left[own])
    for place, base in bases.items():
        numbers[place] = -base[own] * numbers[own] % p
    return tuple(numbers)
