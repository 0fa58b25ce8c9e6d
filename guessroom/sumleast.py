"""The basis of a sum house, the least sum house, and what tells two sum houses apart."""

from guessroom.spans import factors_of_each, left_of, place_of_first, unit, with_base
from guessroom.sumhouse import check_as_many, less_of, stepped, sums_back, worth


# The rows behind the words of the basis, by these words. The words of the basis are walked in
# their order, and letters from 0 on: so each word comes behind all those ahead of it that count.
def basis_rows(house):
    p = house[0]
    rows = {}
    bases = {}
    found = [((), house[2])]
    walked = 0
    while walked < len(found):
        word = found[walked][0]
        row = found[walked][1]
        left = left_of(p, bases, row)
        place = place_of_first(left)
        if place is not None:
            rows[word] = row
            bases = with_base(p, bases, left, place)
            for letter in range(house[1]):
                found.append((word + (letter,), stepped(house, row, letter)))
        walked += 1
    return rows


def sums_basis(house):
    rows = basis_rows(house)
    own = list(rows.values())
    made = []
    for row in own:
        goals = [stepped(house, row, letter) for letter in range(house[1])]
        made.append(factors_of_each(house[0], own, goals, len(house[2])))
    return (list(rows), made)


# The first word whose worth in the one less the other is not 0 is of the basis: the row behind it
# is made of no rows whose worths are all 0.
def sums_difference(house, other):
    check_as_many(house, other)
    both = less_of(house, other)
    for word in basis_rows(both):
        if worth(both, word) != 0:
            return word
    return None


def sums_alike(house, other):
    return sums_difference(house, other) is None


# The house whose rows tell by which factors a row is made of the rows behind the basis.
def on_basis(house):
    basis = sums_basis(house)
    size = len(basis[0])
    tables = []
    for letter in range(house[1]):
        tables.append(tuple([tuple(made[letter]) for made in basis[1]]))
    last = tuple([worth(house, word) for word in basis[0]])
    return (house[0], house[1], unit(size, 0), tuple(tables), last)


# The row behind a word tells here the word's worths with the tails of a basis of the house turned
# back behind it; and of these every worth of the word with whatever behind it is made. So words
# whose rows of worths are made of one another are just those whose rows are.
def by_worths(house):
    return sums_back(on_basis(sums_back(house)))


def sums_access(house):
    return list(basis_rows(by_worths(house)))


def sums_least(house):
    return on_basis(by_worths(house))


# In the least house turned back the rows behind the basis are as many as there are access words.
def tails(least):
    return [tuple(reversed(word)) for word in basis_rows(sums_back(least))]


def sums_paper(house):
    access = sums_access(house)
    ends = tails(sums_least(house))
    size = len(access)
    rows = [tuple([worth(house, word + end) for end in ends]) for word in access]
    units = [unit(size, place) for place in range(size)]
    return (access, ends, factors_of_each(house[0], rows, units, size))
