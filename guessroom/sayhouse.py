"""Houses whose ways say marks: (letters, says, ways), walked from room 0."""

from guessroom.errors import BadHouse, BadWord
from guessroom.house import MOST_ROOMS, check_letters, check_marks, check_rooms, check_ways, room_behind, trail
from guessroom.least import least
from guessroom.telling import difference


def check_says(letters, says):
    for row in says:
        if len(row) != letters:
            raise BadHouse("each letter's way says one mark")
        check_marks(row)


def made_says(letters, says, ways):
    check_letters(letters)
    check_rooms(len(says))
    check_says(letters, says)
    check_ways(letters, len(says), ways)
    return (letters, tuple([tuple(row) for row in says]), tuple([tuple(row) for row in ways]))


def check_not_empty(word):
    if len(word) == 0:
        raise BadWord("nothing is said along the empty word")


def said(house, word):
    return [house[1][room][letter] for room, letter in zip(trail(house, word), word)]


def last_said(house, word):
    check_not_empty(word)
    return said(house, word)[-1]


# The first room stands for None: it is not one with a pair, even where a way leads back to room 0.
def goals_of(house, pair):
    room = 0 if pair is None else pair[0]
    return list(zip(house[2][room], house[1][room]))


# Pairs are walked in the order in which they are found, and letters from 0 on: so they stand in
# the order of the least words that lead to them.
def marks_from(house, mark):
    found = {None: 0}
    walks = [None]
    marks = [mark]
    ways = []
    while len(ways) < len(walks):
        goals = goals_of(house, walks[len(ways)])
        for goal in goals:
            if goal not in found:
                found[goal] = len(walks)
                walks.append(goal)
                marks.append(goal[1])
        ways.append(tuple([found[goal] for goal in goals]))
    if len(ways) > MOST_ROOMS:
        raise BadHouse("the house with marks would have more than 40 rooms")
    return (house[0], tuple(marks), tuple(ways))


def says_from(house):
    says = tuple([tuple([house[1][goal] for goal in goals]) for goals in house[2]])
    return (house[0], says, house[2])


# What a room's ways say, taken together, is to words as a mark: so the stages before serve here.
def says_difference(house, other):
    word = difference(house, other)
    if word is None:
        return None
    one = house[1][room_behind(house, word)]
    two = other[1][room_behind(other, word)]
    unlike = [letter for letter in range(house[0]) if one[letter] != two[letter]]
    return word + (unlike[0],)


def says_least(house):
    return least(house)
