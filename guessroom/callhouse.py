"""Works: houses that call one another, as (plain, houses), and the rows that they take."""

from guessroom.errors import BadHouse
from guessroom.house import mark_behind
from guessroom.nest import end_sign, parts, spread
from guessroom.telling import steps_from, word_to
from guessroom.words import less

MOST_PLAIN = 4
MOST_HELPERS = 3
MOST_ROOMS_OF_HELPER = 4


def made_works(plain, houses):
    if not 1 <= plain <= MOST_PLAIN:
        raise BadHouse("there are 1 to 4 plain letters")
    if not 1 <= len(houses) <= MOST_HELPERS:
        raise BadHouse("there are 1 to 3 helpers")
    for house in houses:
        if house[0] != plain + len(houses):
            raise BadHouse("a helper's house has a letter for each plain letter and each helper")
        if len(house[1]) > MOST_ROOMS_OF_HELPER:
            raise BadHouse("a helper's house has at most 4 rooms")
    return (plain, tuple(houses))


def takes_part(works, part):
    return mark_behind(works[1][part[0]], part[1]) != 0


def takes(works, signs):
    return all([takes_part(works, part) for part in parts(works[0], len(works[1]), signs)])


# What stands for each letter of a local word: a plain letter for itself, a call for itself, the
# helper's row and an end; None for a call of a helper without a row.
def rows_by_letter(plain, rows):
    signs = [(letter,) for letter in range(plain)]
    for helper, row in enumerate(rows):
        if row is None:
            signs.append(None)
        else:
            signs.append((plain + helper,) + row + (end_sign(plain, len(rows)),))
    return signs


# For each room that is reached from this one the least row that leads there. A row that is less
# stays so with the same signs behind it: so it is enough to go on from the least ones.
def least_rows(house, by_letter, start):
    best = {start: ()}
    changed = True
    while changed:
        changed = False
        for room in list(best):
            for goal, signs in zip(house[2][room], by_letter):
                if signs is not None:
                    row = best[room] + signs
                    if goal not in best or less(row, best[goal]):
                        best[goal] = row
                        changed = True
    return best


# The least row from the room to one with a mark other than 0, or None.
def least_row_taken(house, by_letter, start):
    best = least_rows(house, by_letter, start)
    rows = [best[room] for room in best if house[1][room] != 0]
    return min(rows, key=lambda row: (len(row), row), default=None)


# With each round calls may stand one deeper in the rows. In a least row no helper's call stands
# within one of the same helper, as what is within would be a lesser row: so there are no more
# rounds than helpers.
def shortest(works):
    rows = [None] * len(works[1])
    for depth in range(len(works[1])):
        by_letter = rows_by_letter(works[0], rows)
        rows = [least_row_taken(house, by_letter, 0) for house in works[1]]
    return rows


# A pair of rows between which a call, of the letter, makes a row that the house takes; or None.
def around(house, by_letter, letter):
    found = []
    ahead = least_rows(house, by_letter, 0)
    for room in ahead:
        behind = least_row_taken(house, by_letter, house[2][room][letter])
        if behind is not None:
            found.append((ahead[room], behind))
    return min(found, key=lambda pair: (len(pair[0]) + len(pair[1]), pair), default=None)


# What stands ahead of helper j's stretch in the row of its use, and what stands behind it.
def ahead_of(plain, j, use):
    return () if j == 0 else use[0] + (plain + j,)


def behind_of(plain, helpers, j, use):
    return () if j == 0 else (end_sign(plain, helpers),) + use[2]


# The row of helper j's use with the stretch in the place of within.
def row_with(plain, helpers, j, use, stretch):
    return ahead_of(plain, j, use) + stretch + behind_of(plain, helpers, j, use)


# The same with a local word spread there.
def row_for(plain, helpers, j, uses, local):
    rows = [None if use is None else use[1] for use in uses]
    return row_with(plain, helpers, j, uses[j], spread(plain, helpers, local, rows))


# A use of the helper where the house of the caller, which has this use, calls it; or None.
def use_by(works, rows, caller, use, helper):
    plain = works[0]
    pair = around(works[1][caller], rows_by_letter(plain, rows), plain + helper)
    if pair is None:
        return None
    ahead = ahead_of(plain, caller, use) + pair[0]
    behind = pair[1] + behind_of(plain, len(rows), caller, use)
    return (ahead, rows[helper], behind)


def uses_of(works):
    rows = shortest(works)
    uses = [None] * len(rows)
    if rows[0] is None:
        return uses
    uses[0] = ((), rows[0], ())
    callers = [0]
    walked = 0
    while walked < len(callers):
        caller = callers[walked]
        for helper, row in enumerate(rows):
            if row is not None and uses[helper] is None:
                uses[helper] = use_by(works, rows, caller, uses[caller], helper)
                if uses[helper] is not None:
                    callers.append(helper)
        walked += 1
    return uses


# The house with its calls of helpers without a row led to a room of their own, which takes nothing.
def without_calls(plain, house, rows):
    lost = len(house[1])
    ways = []
    for goals in house[2]:
        known = list(goals[:plain])
        known.extend([lost if row is None else goal for goal, row in zip(goals[plain:], rows)])
        ways.append(tuple(known))
    return (house[0], house[1] + (0,), tuple(ways) + ((lost,) * house[0],))


# A local word that the one house takes and the other does not, or None.
def word_taken_by_one(house, other):
    steps = steps_from(house, other, (0, 0))
    for pair in steps:
        if house[1][pair[0]] != 0 and other[1][pair[1]] == 0:
            return word_to(steps, pair)
    return None


# Where the one takes a row that the other does not, the other does not take one of its parts; and
# then it takes no row with that part: so it is enough to look at those of the one's uses.
def row_taken_by_one(works, other):
    plain = works[0]
    rows = shortest(works)
    uses = uses_of(works)
    for j, use in enumerate(uses):
        if use is not None:
            house = without_calls(plain, works[1][j], rows)
            local = word_taken_by_one(house, other[1][j])
            if local is not None:
                return row_for(plain, len(uses), j, uses, local)
    return None


def works_difference(works, other):
    if works[0] != other[0] or len(works[1]) != len(other[1]):
        raise BadHouse("the two works have not as many plain letters and helpers")
    row = row_taken_by_one(works, other)
    if row is None:
        row = row_taken_by_one(other, works)
    return row
