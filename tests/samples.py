"""Houses and words for the tests, and what can be told of them by hand, without the program."""

import itertools
import random

TOP = 1000000000
FAR = 10 ** 30
# The greatest prime below 10 ** 18.
GREAT = 10 ** 18 - 11
PRIMES = (2, 3, 7, 1000003, GREAT)


def words_by_hand(letters, most):
    """All words by their counts of letters; product tells those of one count in their order."""
    return [
        word
        for count in range(most + 1)
        for word in itertools.product(range(letters), repeat=count)
    ]


def answer(house, word, room=0):
    """The mark at the word's end, walked from the room."""
    for letter in word:
        room = house[2][room][letter]
    return house[1][room]


def say_answer(house, word):
    """What the last way along the word says."""
    room = 0
    mark = None
    for letter in word:
        mark = house[1][room][letter]
        room = house[2][room][letter]
    return mark


def all_houses(letters, rooms, marks):
    """Every house with so many letters and rooms whose marks are among these."""
    rows = list(itertools.product(range(rooms), repeat=letters))
    for some_marks in itertools.product(marks, repeat=rooms):
        for ways in itertools.product(rows, repeat=rooms):
            yield (letters, some_marks, ways)


def random_house(chance, letters, rooms, marks=(0, 1)):
    return (
        letters,
        tuple(chance.choice(marks) for room in range(rooms)),
        tuple(tuple(chance.randrange(rooms) for k in range(letters)) for room in range(rooms)),
    )


def random_houses(seed, count, most_letters=3, most_rooms=8, marks=(0, 1)):
    """Houses that are the same in each run."""
    chance = random.Random(seed)
    return [
        random_house(
            chance, chance.randint(1, most_letters), chance.randint(1, most_rooms), marks
        )
        for number in range(count)
    ]


def all_says(letters, rooms, marks):
    """Every house that says, with so many letters and rooms and with these marks."""
    goals = list(itertools.product(range(rooms), repeat=letters))
    rows = list(itertools.product(marks, repeat=letters))
    for says in itertools.product(rows, repeat=rooms):
        for ways in itertools.product(goals, repeat=rooms):
            yield (letters, says, ways)


def random_says(chance, letters, rooms, marks=(0, 1)):
    house = random_house(chance, letters, rooms)
    says = tuple(tuple(chance.choice(marks) for k in range(letters)) for room in range(rooms))
    return (letters, says, house[2])


def many_says(seed, count, most_letters=3, most_rooms=8, marks=(0, 1)):
    chance = random.Random(seed)
    return [
        random_says(
            chance, chance.randint(1, most_letters), chance.randint(1, most_rooms), marks
        )
        for number in range(count)
    ]


def random_word(chance, letters, count):
    return tuple(chance.randrange(letters) for k in range(count))


def chain(letters, rooms, marks=None):
    """The last letter leads one room on, up to the last room; the others lead nowhere else.

    Where no marks are told, the last room alone is marked unlike the others."""
    if marks is None:
        marks = (0,) * (rooms - 1) + (1,)
    ways = tuple(
        (room,) * (letters - 1) + (min(room + 1, rooms - 1),) for room in range(rooms)
    )
    return (letters, tuple(marks), ways)


def ring(letters, rooms, marks):
    """Letter k leads k + 1 rooms on, and round."""
    ways = tuple(
        tuple((room + k + 1) % rooms for k in range(letters)) for room in range(rooms)
    )
    return (letters, tuple(marks), ways)


def late_pair(letters, rooms, others):
    """Two houses that only words with rooms + others - 2 times the last letter tell apart."""
    ring_marks = [0] * others
    ring_marks[(rooms - 2) % others] = 1
    ring_ways = tuple(
        (room,) * (letters - 1) + ((room + 1) % others,) for room in range(others)
    )
    marks = [ring_marks[room % others] for room in range(rooms - 1)] + [0]
    return chain(letters, rooms, marks), (letters, tuple(ring_marks), ring_ways)


def pairs_told_apart(house, other):
    """The pairs of rooms that some word tells apart, found by going back from unlike marks."""
    every = list(itertools.product(range(len(house[1])), range(len(other[1]))))
    found = {pair for pair in every if house[1][pair[0]] != other[1][pair[1]]}
    grown = True
    while grown:
        grown = False
        for one, two in every:
            if (one, two) not in found:
                goals = zip(house[2][one], other[2][two])
                if any(goal in found for goal in goals):
                    found.add((one, two))
                    grown = True
    return found


def reached_by_hand(house):
    found = {0}
    left = [0]
    while left:
        for goal in house[2][left.pop()]:
            if goal not in found:
                found.add(goal)
                left.append(goal)
    return found


def least_words_in(house):
    """For each room that is reached its least word, by walking whole levels of words."""
    rooms = {0: ()}
    level = [((), 0)]
    while level:
        behind = []
        for word, room in level:
            for letter, goal in enumerate(house[2][room]):
                behind.append((word + (letter,), goal))
        level = []
        for word, goal in sorted(behind):
            if goal not in rooms:
                rooms[goal] = word
                level.append((word, goal))
    return rooms


def wrong_words(letters):
    """Words with a number that is no letter, at the first, a middle and the last place."""
    for wrong in (-1, -letters, letters, letters + 1, -FAR, FAR):
        yield (wrong,)
        yield (wrong, 0, 0)
        yield (0, wrong, 0)
        yield (0, 0, wrong)
        yield (0,) * 400 + (wrong,)
