"""Trials: words with the marks that are due, and rows of words that are enough to try a house."""

from guessroom.house import mark_behind, room_behind
from guessroom.least import least
from guessroom.reach import ways_in
from guessroom.telling import tellers
from guessroom.words import check_word, words_to


def in_order(words):
    once = {}
    for word in words:
        once[word] = True
    return sorted(list(once), key=lambda word: (len(word), word))


def marks_from_each_room(house, word):
    rooms = list(range(len(house[1])))
    for letter in word:
        rooms = [house[2][room][letter] for room in rooms]
    return [house[1][room] for room in rooms]


# left are the rooms that no word so far tells apart from this one: where a word makes them fewer
# it is the first one to tell some of them apart.
def own_tellers(words, marks_behind, room):
    own = [()]
    left = list(range(len(marks_behind[0])))
    for word, marks in zip(words, marks_behind):
        still = [other for other in left if marks[other] == marks[room]]
        if len(still) < len(left):
            own.append(word)
        left = still
    return own


def tellers_of_each_room(house):
    words = tellers(house)
    marks_behind = [marks_from_each_room(house, word) for word in words]
    return [own_tellers(words, marks_behind, room) for room in range(len(house[1]))]


# ends tells for each room of the least house the words that are put behind those leading there.
def words_with(base, more, ends):
    words = []
    for way in ways_in(base):
        for middle in words_to(base[0], more + 1):
            first = way + middle
            words.extend([first + end for end in ends[room_behind(base, first)]])
    return in_order(words)


def suite(house, more):
    base = least(house)
    words = tellers(base)
    return words_with(base, more, [words for mark in base[1]])


def slim(house, more):
    base = least(house)
    return words_with(base, more, tellers_of_each_room(base))


def trials_of(house, words):
    return [(word, mark_behind(house, word)) for word in words]


# All words are looked at first: a wrong one is refused even behind a trial that fails.
def first_failed(house, some):
    for trial in some:
        check_word(house[0], trial[0])
    for trial in some:
        if mark_behind(house, trial[0]) != trial[1]:
            return trial
    return None


def passes(house, some):
    return first_failed(house, some) is None
