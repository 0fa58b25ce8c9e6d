"""Rows of signs in which calls stand within calls, and the local words that they are made of."""

from guessroom.errors import BadWord


# The signs are the plain letters, then a call of each helper, then the end of a call.
def end_sign(plain, helpers):
    return plain + helpers


def nested(plain, helpers, signs):
    end = end_sign(plain, helpers)
    depth = 0
    for sign in signs:
        if not 0 <= sign <= end:
            return False
        if sign == end:
            depth -= 1
        elif sign >= plain:
            depth += 1
        if depth < 0:
            return False
    return depth == 0


def check_nested(plain, helpers, signs):
    if not nested(plain, helpers, signs):
        raise BadWord("the row of signs is not nested")


# words has the local word of the row and those of the stretches that are not ended yet, and
# called the helpers that these stretches are of.
def parts(plain, helpers, signs):
    check_nested(plain, helpers, signs)
    end = end_sign(plain, helpers)
    told = []
    called = []
    words = [[]]
    for sign in signs:
        if sign == end:
            told.append((called.pop(), tuple(words.pop())))
            continue
        words[-1].append(sign)
        if sign >= plain:
            called.append(sign - plain)
            words.append([])
    told.append((0, tuple(words[0])))
    return told


def local_word(plain, helpers, signs):
    return parts(plain, helpers, signs)[-1][1]


def spread(plain, helpers, local, rows):
    signs = []
    for letter in local:
        signs.append(letter)
        if letter >= plain:
            signs.extend(rows[letter - plain])
            signs.append(end_sign(plain, helpers))
    return tuple(signs)
