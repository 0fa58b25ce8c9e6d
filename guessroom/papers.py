"""Papers: what shows that a house has at least so many rooms, or which house it is."""

from guessroom.errors import NoPaper
from guessroom.table import rows_of, ways_by_marks
from guessroom.words import is_word


# The access words and, where the asker is spent, the word over behind them.
def access_and_over(asker):
    access = asker.access()
    wish = asker.wants()
    if wish[0] == "spent":
        access.append(wish[1])
    return tuple(access)


def paper_of(asker):
    return (asker.letters, access_and_over(asker), tuple(asker.tellers()), tuple(asker.heard()))


# parts are the access words, the telling words and what was heard.
def has_letters_alone(letters, parts):
    words = list(parts[0] + parts[1]) + [pair[0] for pair in parts[2]]
    return all([is_word(letters, word) for word in words])


# What was heard is taken as it stands and not put into a Book, which refuses some marks.
def marks_heard(heard, word, ends):
    return tuple([heard.get(word + end) for end in ends])


def tells_apart(paper):
    heard = dict(paper[3])
    if len(paper[1]) == 0 or len(heard) < len(paper[3]) or not has_letters_alone(paper[0], paper[1:]):
        return False
    rows = [marks_heard(heard, word, paper[2]) for word in paper[1]]
    if any([None in row for row in rows]):
        return False
    return len(set(rows)) == len(rows)


def at_least(paper):
    if not tells_apart(paper):
        raise NoPaper("the paper does not tell apart its access words")
    return len(paper[1])


# Of words that are told apart, so that none of them stands twice.
def are_access_words(words):
    if words[0] != ():
        return False
    return all([words[place][:-1] in words[:place] for place in range(1, len(words))])


def ways_heard(paper):
    heard = dict(paper[3])
    marks = {}
    for row in rows_of(paper[0], paper[1]):
        marks[row] = marks_heard(heard, row, paper[2])
    return ways_by_marks(paper[0], paper[1], marks)


def judged(paper):
    if not tells_apart(paper) or not are_access_words(paper[1]) or paper[2][:1] != ((),):
        raise NoPaper("the paper is not whole")
    ways = ways_heard(paper)
    if any([None in goals for goals in ways]):
        raise NoPaper("the paper does not tell where each letter leads")
    heard = dict(paper[3])
    return (paper[0], tuple([heard[word] for word in paper[1]]), ways)
