"""The least house that answers every word as a house does."""

from guessroom.reach import reached
from guessroom.telling import classes_of, difference


# Rooms come in the order of their ways in, so a home is met first with its own way in.
def homes(house):
    classes = classes_of(house)
    numbers = {}
    told = [None] * len(house[1])
    for room in reached(house):
        told[room] = numbers.setdefault(classes[room], len(numbers))
    return told


def least(house):
    home_of = homes(house)
    marks = []
    ways = []
    for room in reached(house):
        if home_of[room] == len(marks):
            marks.append(house[1][room])
            ways.append(tuple([home_of[goal] for goal in house[2][room]]))
    return (house[0], tuple(marks), tuple(ways))


def alike(house, other):
    return difference(house, other) is None
