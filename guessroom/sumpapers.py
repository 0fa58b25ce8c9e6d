"""Sum papers: what shows that a sum house has at least so many numbers, or which house it is."""

from guessroom.errors import NoPaper
from guessroom.papers import access_and_over, has_letters_alone
from guessroom.spans import factors_of_each, free, unit
from guessroom.sumhouse import is_number
from guessroom.sumtable import numbers_behind, sum_guess
from guessroom.table import cells


def sum_paper(asker):
    return (asker.p, asker.letters, access_and_over(asker), tuple(asker.tellers()), tuple(asker.heard()))


def rows_heard(paper):
    heard = dict(paper[4])
    return [numbers_behind(heard, word, paper[3]) for word in paper[2]]


def counts(paper):
    if not has_letters_alone(paper[1], paper[2:]) or len(paper[2]) != len(paper[3]):
        return False
    if len(dict(paper[4])) < len(paper[4]):
        return False
    if not all([is_number(paper[0], pair[1]) for pair in paper[4]]):
        return False
    rows = rows_heard(paper)
    if any([None in row for row in rows]):
        return False
    return free(paper[0], rows)


def check_counts(paper):
    if not counts(paper):
        raise NoPaper("the sum paper does not count")


def sum_at_least(paper):
    check_counts(paper)
    return len(paper[2])


def sum_undone(paper):
    check_counts(paper)
    size = len(paper[2])
    units = [unit(size, place) for place in range(size)]
    return factors_of_each(paper[0], rows_heard(paper), units, size)


def sum_judged(paper):
    check_counts(paper)
    access = list(paper[2])
    heard = dict(paper[4])
    if access[:1] not in ([], [()]):
        raise NoPaper("the first access word is the empty one")
    needed = access + cells(paper[1], access, paper[3])
    if not all([word in heard for word in needed]):
        raise NoPaper("not all was heard that makes the sum paper whole")
    return sum_guess(paper[0], paper[1], access, paper[3], heard)
