"""Houses whose rooms bear marks: (letters, marks, ways), walked from room 0."""

from guessroom.errors import BadHouse
from guessroom.words import check_word

MOST_LETTERS = 6
MOST_ROOMS = 40
MOST_MARK = 1000000000


def is_mark(number):
    return 0 <= number <= MOST_MARK


def check_letters(letters):
    if not 1 <= letters <= MOST_LETTERS:
        raise BadHouse("a house has 1 to 6 letters")


def check_marks(marks):
    if not all([is_mark(mark) for mark in marks]):
        raise BadHouse("a mark is from 0 to 1000000000")


def check_rooms(rooms):
    if not 1 <= rooms <= MOST_ROOMS:
        raise BadHouse("a house has 1 to 40 rooms")


def check_ways(letters, rooms, ways):
    if len(ways) != rooms:
        raise BadHouse("each room has one row of ways")
    for row in ways:
        if len(row) != letters:
            raise BadHouse("each letter has one way from a room")
        if not all([0 <= goal < rooms for goal in row]):
            raise BadHouse("a way leads to no room")


def made(letters, marks, ways):
    check_letters(letters)
    check_rooms(len(marks))
    check_marks(marks)
    check_ways(letters, len(marks), ways)
    return (letters, tuple(marks), tuple([tuple(row) for row in ways]))


def trail(house, word):
    check_word(house[0], word)
    ways = house[2]
    rooms = [0]
    for letter in word:
        rooms.append(ways[rooms[-1]][letter])
    return rooms


def room_behind(house, word):
    return trail(house, word)[-1]


def mark_behind(house, word):
    return house[1][room_behind(house, word)]


def marks_along(house, word):
    marks = house[1]
    return [marks[room] for room in trail(house, word)]


def check_order(rooms, order):
    if sorted(order) != list(range(rooms)):
        raise BadHouse("an order has each room's number once")
    if order[0] != 0:
        raise BadHouse("room 0 stays 0")


def turned(house, order):
    rooms = len(house[1])
    check_order(rooms, order)
    marks = [0] * rooms
    ways = [()] * rooms
    for room, number in enumerate(order):
        marks[number] = house[1][room]
        ways[number] = tuple([order[goal] for goal in house[2][room]])
    return (house[0], tuple(marks), tuple(ways))
