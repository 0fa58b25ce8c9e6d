"""Words, houses and papers written as texts and read again."""

from guessroom.errors import BadHouse, NoText
from guessroom.house import MOST_LETTERS, is_mark, made
from guessroom.words import is_word

SIGNS = "abcdef"
EMPTY = "."
FIGURES = "0123456789"
# No number of a house or a paper has more; and Python reads no numbers of some thousand figures.
MOST_FIGURES = 10


def word_text(word):
    if len(word) == 0:
        return EMPTY
    return "".join([SIGNS[letter] for letter in word])


def read_word(letters, text):
    if text == EMPTY:
        return ()
    word = tuple([SIGNS.find(sign) for sign in text])
    if len(word) == 0 or not is_word(letters, word):
        raise NoText("this writes no word of these letters")
    return word


def read_number(text):
    if not 1 <= len(text) <= MOST_FIGURES or not all([sign in FIGURES for sign in text]):
        raise NoText("this is no number in figures")
    if text[0] == "0" and text != "0":
        raise NoText("a nought stands ahead of the number")
    return int(text)


def row_text(parts):
    return " ".join(parts) + "\n"


def rows_in(text):
    rows = text.split("\n")
    if len(rows) < 2 or rows[-1] != "":
        raise NoText("each row is ended by a line feed")
    return rows[:-1]


# The parts of a row behind its first word, which is to be this one.
def parts_behind(first, count, row):
    parts = row.split(" ")
    if parts[0] != first or len(parts) != count + 1:
        raise NoText("a row is not written so")
    return parts[1:]


def read_count(text, most):
    count = read_number(text)
    if not 1 <= count <= most:
        raise NoText("there are too few or too many")
    return count


def read_letters(first, row):
    return read_count(parts_behind(first, 1, row)[0], MOST_LETTERS)


def house_text(house):
    rows = [row_text(["house", str(house[0])])]
    for mark, goals in zip(house[1], house[2]):
        rows.append(row_text(["room", str(mark)] + [str(goal) for goal in goals]))
    return "".join(rows)


def read_room(letters, row):
    return [read_number(part) for part in parts_behind("room", letters + 1, row)]


def read_house(text):
    rows = rows_in(text)
    letters = read_letters("house", rows[0])
    rooms = [read_room(letters, row) for row in rows[1:]]
    try:
        return made(letters, [room[0] for room in rooms], [room[1:] for room in rooms])
    except BadHouse:
        raise NoText("this writes no house") from None


def paper_text(paper):
    rows = [row_text(["paper", str(paper[0])])]
    rows.extend([row_text(["way", word_text(word)]) for word in paper[1]])
    rows.extend([row_text(["end", word_text(word)]) for word in paper[2]])
    for word, mark in paper[3]:
        rows.append(row_text(["heard", word_text(word), str(mark)]))
    return "".join(rows)


def read_heard(letters, row):
    parts = parts_behind("heard", 2, row)
    mark = read_number(parts[1])
    if not is_mark(mark):
        raise NoText("a mark is from 0 to 1000000000")
    return (read_word(letters, parts[0]), mark)


def read_words(first, letters, rows):
    return tuple([read_word(letters, parts_behind(first, 1, row)[0]) for row in rows])


# The rows are cut by how many of them begin so: where they stand in another order, one of them
# comes to a place at which another beginning is due.
def read_paper(text):
    rows = rows_in(text)
    letters = read_letters("paper", rows[0])
    begins = [row.partition(" ")[0] for row in rows]
    ways_end = 1 + begins.count("way")
    ends_end = ways_end + begins.count("end")
    access = read_words("way", letters, rows[1:ways_end])
    ends = read_words("end", letters, rows[ways_end:ends_end])
    heard = tuple([read_heard(letters, row) for row in rows[ends_end:]])
    return (letters, access, ends, heard)
