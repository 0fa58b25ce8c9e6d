"""Access words and telling words of sums, and the sum house that they make of what was told."""

from guessroom.spans import factors_of_each, unit


# told is a dict of words and their numbers; None where a word was not told.
def numbers_behind(told, word, ends):
    return tuple([told.get(word + end) for end in ends])


# Of access words whose rows are free, as many as there are telling words.
def sum_guess(p, letters, access, ends, told):
    size = len(access)
    rows = [numbers_behind(told, word, ends) for word in access]
    tables = []
    for letter in range(letters):
        goals = [numbers_behind(told, word + (letter,), ends) for word in access]
        tables.append(tuple([tuple(made) for made in factors_of_each(p, rows, goals, size)]))
    last = tuple([told[word] for word in access])
    return (p, letters, unit(size, 0), tuple(tables), last)
