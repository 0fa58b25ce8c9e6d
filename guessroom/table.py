"""Tables: access words and telling words, and the guess that they make of what was told."""

from guessroom.house import mark_behind


def rows_of(letters, access):
    rows = {}
    for word in access:
        rows[word] = True
    for word in access:
        for letter in range(letters):
            rows[word + (letter,)] = True
    return list(rows)


def cells(letters, access, ends):
    words = {}
    for row in rows_of(letters, access):
        for end in ends:
            words[row + end] = True
    return list(words)


def gap(book, letters, access, ends):
    for word in cells(letters, access, ends):
        if book.told(word) is None:
            return word
    return None


def marks_of(book, word, ends):
    return [book.told(word + end) for end in ends]


def marks_by_row(book, letters, access, ends):
    marks = {}
    for row in rows_of(letters, access):
        marks[row] = tuple(marks_of(book, row, ends))
    return marks


def stranger(book, letters, access, ends):
    marks = marks_by_row(book, letters, access, ends)
    known = [marks[word] for word in access]
    for row in marks:
        if marks[row] not in known:
            return row
    return None


# The rooms to which the letters lead from each access word's room, by the marks of all rows;
# None where a row has the marks of no access word.
def ways_by_marks(letters, access, marks):
    rooms = {}
    for room, word in enumerate(access):
        rooms[marks[word]] = room
    ways = []
    for word in access:
        ways.append(tuple([rooms.get(marks[word + (letter,)]) for letter in range(letters)]))
    return tuple(ways)


def guess_of(book, letters, access, ends):
    marks = marks_by_row(book, letters, access, ends)
    room_marks = tuple([book.told(word) for word in access])
    return (letters, room_marks, ways_by_marks(letters, access, marks))


# The first word of what was heard that the house answers otherwise, as answer tells it.
def first_unlike(heard, answer, house):
    for word, told in heard:
        if answer(house, word) != told:
            return word
    return None


def first_wrong(book, house):
    return first_unlike(book.heard(), mark_behind, house)
