"""Rows of signs and works for the tests, and what can be told of them by hand."""

import functools
import itertools
import random

from samples import answer, random_house


def parts_by_hand(plain, helpers, signs):
    """The parts, or None where the row is not nested: by cutting out one innermost call after
    another, each the first one to end."""
    end = plain + helpers
    row = list(signs)
    if not all(sign in range(end + 1) for sign in row):
        return None
    # A call that was looked at is kept as a pair, so that it is not taken for one not ended.
    found = []
    while end in row:
        close = row.index(end)
        calls = [at for at in range(close) if type(row[at]) is int and row[at] >= plain]
        if not calls:
            return None
        begin = calls[-1]
        found.append((row[begin] - plain, plain_word(row[begin + 1:close])))
        row[begin:close + 1] = [(row[begin],)]
    if any(type(sign) is int and sign >= plain for sign in row):
        return None
    return found + [(0, plain_word(row))]


def plain_word(row):
    return tuple(sign if type(sign) is int else sign[0] for sign in row)


def takes_by_hand(works, signs):
    plain, houses = works
    return all(
        answer(houses[helper], word) != 0
        for helper, word in parts_by_hand(plain, len(houses), signs)
    )


def all_rows(plain, helpers, most):
    """Every nested row with at most so many signs, in the order of words."""
    for count in range(most + 1):
        for row in itertools.product(range(plain + helpers + 1), repeat=count):
            if parts_by_hand(plain, helpers, row) is not None:
                yield row


@functools.lru_cache(None)
def rows_and_parts(plain, helpers, most):
    return [(row, parts_by_hand(plain, helpers, row)) for row in all_rows(plain, helpers, most)]


def random_works(chance, plain, helpers, most=4, marks=(0, 1)):
    letters = plain + helpers
    houses = [random_house(chance, letters, chance.randint(1, most), marks) for j in range(helpers)]
    return (plain, tuple(houses))


def many_works(seed, count, most_plain=3, most_helpers=3, most=4, marks=(0, 1)):
    chance = random.Random(seed)
    return [
        random_works(
            chance, chance.randint(1, most_plain), chance.randint(1, most_helpers), most, marks
        )
        for number in range(count)
    ]


def random_row(chance, plain, helpers, count, depth=300):
    """A nested row with about so many signs."""
    end = plain + helpers
    row = []
    deep = 0
    while len(row) + deep < count:
        kind = chance.randrange(3)
        if kind == 0:
            row.append(chance.randrange(plain))
        elif kind == 1 and deep < depth:
            row.append(plain + chance.randrange(helpers))
            deep += 1
        elif deep > 0:
            row.append(end)
            deep -= 1
    return tuple(row + [end] * deep)


def everything(plain, helpers):
    """The works that takes every nested row."""
    letters = plain + helpers
    return (plain, ((letters, (1,), ((0,) * letters,)),) * helpers)


def nothing_taken(plain, helpers):
    letters = plain + helpers
    return (plain, ((letters, (0,), ((0,) * letters,)),) * helpers)


def outcomes(works, other):
    """For each helper which pairs of answers the two works can give of a call's stretch: whether
    the one takes it with all within, and whether the other does. Grown from nothing on."""
    plain, houses = works
    helpers = len(houses)
    found = [set() for house in houses]
    grown = True
    while grown:
        grown = False
        for helper in range(helpers):
            for pair in outcomes_of(plain, houses[helper], other[1][helper], found):
                if pair not in found[helper]:
                    found[helper].add(pair)
                    grown = True
    return found


def outcomes_of(plain, house, other, found):
    start = (0, 0, True, True)
    seen = {start}
    left = [start]
    while left:
        one, two, first, second = left.pop()
        steps = [(letter, True, True) for letter in range(plain)]
        for helper, pairs in enumerate(found):
            steps += [(plain + helper,) + pair for pair in pairs]
        for letter, here, there in steps:
            goal = (house[2][one][letter], other[2][two][letter], first and here, second and there)
            if goal not in seen:
                seen.add(goal)
                left.append(goal)
    return {
        (first and house[1][one] != 0, second and other[1][two] != 0)
        for one, two, first, second in seen
    }


def told_apart(works, other):
    return any(one != two for one, two in outcomes(works, other)[0])


def shortest_by_hand(works, most):
    """For each helper its shortest row, where it has one with at most so many signs."""
    plain, houses = works
    helpers = len(houses)
    found = [None] * helpers
    for row, pieces in rows_and_parts(plain, helpers, most):
        if all(answer(houses[j], word) != 0 for j, word in pieces[:-1]):
            for helper in range(helpers):
                if found[helper] is None and answer(houses[helper], pieces[-1][1]) != 0:
                    found[helper] = row
    return found


def helpers_with_rows(works):
    """The helpers that have some row at all, by growing what is known of them."""
    found = outcomes(works, works)
    return [(True, True) in pairs for pairs in found]


def helpers_of_use(works):
    """Whether each helper is of use: called somewhere in a row that is taken, by hand."""
    plain, houses = works
    have = helpers_with_rows(works)
    if not have[0]:
        return [False] * len(houses)
    found = {0}
    left = [0]
    while left:
        house = houses[left.pop()]
        letters = list(range(plain)) + [plain + j for j, one in enumerate(have) if one]
        for helper in range(len(houses)):
            if have[helper] and helper not in found and calls(house, letters, plain + helper):
                found.add(helper)
                left.append(helper)
    return [helper in found for helper in range(len(houses))]


def calls(house, letters, call):
    """Whether some word of these letters that the house takes has the call in it."""
    seen = {(0, False)}
    left = [(0, False)]
    while left:
        room, called = left.pop()
        for letter in letters:
            goal = (house[2][room][letter], called or letter == call)
            if goal not in seen:
                seen.add(goal)
                left.append(goal)
    return any(called and house[1][room] != 0 for room, called in seen)
