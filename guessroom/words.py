"""Words, which are tuples of letters, and the order in which they stand."""

from guessroom.errors import BadWord


def is_word(letters, word):
    return all([0 <= letter < letters for letter in word])


def check_word(letters, word):
    if not is_word(letters, word):
        raise BadWord("a number of the word is no letter")


def less(word, other):
    if len(word) != len(other):
        return len(word) < len(other)
    return word < other


def next_word(letters, word):
    check_word(letters, word)
    kept = len(word)
    while kept > 0 and word[kept - 1] == letters - 1:
        kept -= 1
    if kept == 0:
        return (0,) * (len(word) + 1)
    return word[:kept - 1] + (word[kept - 1] + 1,) + (0,) * (len(word) - kept)


# A letter counts one more than its number: else (), (0,) and (0, 0) would share a place.
def place_of(letters, word):
    check_word(letters, word)
    place = 0
    for letter in word:
        place = place * letters + letter + 1
    return place


def word_at(letters, place):
    if place < 0:
        raise BadWord("no word has a place below nought")
    backwards = []
    rest = place
    while rest > 0:
        rest -= 1
        backwards.append(rest % letters)
        rest = rest // letters
    return tuple(reversed(backwards))


def words_to(letters, most):
    words = []
    word = ()
    while len(word) <= most:
        words.append(word)
        word = next_word(letters, word)
    return words
