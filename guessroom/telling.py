"""Words that tell rooms and houses apart."""

from guessroom.errors import BadHouse


def check_as_many_letters(house, other):
    if house[0] != other[0]:
        raise BadHouse("the two houses have not as many letters")


# Tells for each pair the pair and the letter by which it was found. Pairs are walked in the order
# in which they are found, and letters from 0 on: so they stand in the order of their least words.
def steps_from(house, other, start):
    steps = {start: None}
    found = [start]
    walked = 0
    while walked < len(found):
        pair = found[walked]
        for letter in range(house[0]):
            goal = (house[2][pair[0]][letter], other[2][pair[1]][letter])
            if goal not in steps:
                steps[goal] = (pair, letter)
                found.append(goal)
        walked += 1
    return steps


def word_to(steps, pair):
    backwards = []
    step = steps[pair]
    while step is not None:
        backwards.append(step[1])
        step = steps[step[0]]
    return tuple(reversed(backwards))


# Where no pair bears unlike marks, no word leads to unlike marks, however long it is.
def least_word_apart(house, other, start):
    steps = steps_from(house, other, start)
    for pair in steps:
        if house[1][pair[0]] != other[1][pair[1]]:
            return word_to(steps, pair)
    return None


def apart(house, one, other):
    return least_word_apart(house, house, (one, other))


def pairs(house, other):
    check_as_many_letters(house, other)
    return list(steps_from(house, other, (0, 0)))


def difference(house, other):
    check_as_many_letters(house, other)
    return least_word_apart(house, other, (0, 0))


# A number for each thing of the row, alike for things that are alike, counted from 0.
def numbered(row):
    numbers = {}
    for thing in row:
        if thing not in numbers:
            numbers[thing] = len(numbers)
    return [numbers[thing] for thing in row]


# A pair of the telling words and of a list that tells for each room its class. A word is taken
# only where it splits a class, so there are never more words than classes. One that splits none
# now will split none later, as classes only become smaller: so each is looked at once.
def words_and_classes(house):
    words = [()]
    marks_behind = [house[1]]
    classes = numbered(house[1])
    walked = 0
    while walked < len(words):
        for letter in range(house[0]):
            marks = [marks_behind[walked][goals[letter]] for goals in house[2]]
            finer = numbered(list(zip(classes, marks)))
            if max(finer) > max(classes):
                words.append((letter,) + words[walked])
                marks_behind.append(marks)
                classes = finer
        walked += 1
    return (words, classes)


def tellers(house):
    return words_and_classes(house)[0]


def classes_of(house):
    return words_and_classes(house)[1]
