"""Sittings: an asker led by a house, written as a log, and logs followed to their end."""

from guessroom.asker import Asker
from guessroom.errors import AskError, NoText
from guessroom.house import MOST_LETTERS, mark_behind
from guessroom.notes import parts_behind, read_count, read_house, read_number, read_word, row_text, rows_in, word_text
from guessroom.papers import paper_of
from guessroom.telling import difference

MOST_OF_ASKER = 12


def goes_on(asker):
    return asker.wants()[0] in ("ask", "show")


# Does what the asker wants, as the house answers it, and tells the parts of the log's row.
def deed(asker, house):
    wish = asker.wants()
    word = wish[1] if wish[0] == "ask" else difference(house, wish[1])
    if word is None:
        asker.agree()
        return ["agree"]
    mark = mark_behind(house, word)
    if wish[0] == "ask":
        asker.hear(mark)
        return ["ask", word_text(word), str(mark)]
    asker.differ(word, mark)
    return ["object", word_text(word), str(mark)]


# The rows that come where the asker is done or spent.
def last_rows(wish):
    return [row_text(["spent", word_text(wish[1])])] if wish[0] == "spent" else []


def sitting(text, most):
    house = read_house(text)
    asker = Asker(house[0], most)
    rows = [row_text(["sitting", str(house[0]), str(most)])]
    while goes_on(asker):
        rows.append(row_text(deed(asker, house)))
    return "".join(rows + last_rows(asker.wants()))


def read_asker(row):
    counts = parts_behind("sitting", 2, row)
    return Asker(read_count(counts[0], MOST_LETTERS), read_count(counts[1], MOST_OF_ASKER))


def read_deed(asker, first, row):
    two = parts_behind(first, 2, row)
    return (read_word(asker.letters, two[0]), read_number(two[1]))


def follow_row(asker, row):
    if row == "agree":
        asker.agree()
    elif asker.wants()[0] == "ask":
        pair = read_deed(asker, "ask", row)
        if pair[0] != asker.wants()[1]:
            raise NoText("the asker does not want to ask this")
        asker.hear(pair[1])
    else:
        pair = read_deed(asker, "object", row)
        asker.differ(pair[0], pair[1])


def asker_behind(log):
    rows = rows_in(log)
    asker = read_asker(rows[0])
    at = 1
    while at < len(rows) and goes_on(asker):
        try:
            follow_row(asker, rows[at])
        except AskError:
            raise NoText("the asker does not take this row") from None
        at += 1
    if goes_on(asker) or [row_text([row]) for row in rows[at:]] != last_rows(asker.wants()):
        raise NoText("the log does not end as the asker does")
    return asker


def followed(log):
    return asker_behind(log).wants()


def paper_behind(log):
    return paper_of(asker_behind(log))
