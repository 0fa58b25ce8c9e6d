"""Numbers and rows of numbers, reckoned by a prime p."""

from guessroom.errors import NoInverse


# Each of one and two is what its factor makes of the number, by p; they shrink as in looking for
# the greatest common measure of p and the number, which is 1.
def inverse(p, number):
    one = p
    two = number % p
    if two == 0:
        raise NoInverse("nought has no inverse")
    factor_of_one = 0
    factor_of_two = 1
    while two != 0:
        times = one // two
        rest = one - times * two
        factor_of_rest = factor_of_one - times * factor_of_two
        one = two
        factor_of_one = factor_of_two
        two = rest
        factor_of_two = factor_of_rest
    return factor_of_one % p


def scaled(p, factor, row):
    return tuple([factor * number % p for number in row])


def added(p, row, other):
    return tuple([(one + two) % p for one, two in zip(row, other)])


def product(p, row, other):
    return sum([one * two for one, two in zip(row, other)]) % p
