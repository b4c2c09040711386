"""Exact fractions: tuples (above, below) in lowest terms, below greater than nought."""

from endrooms.errors import NoFraction


def greatest_divisor(one, other):
    while other != 0:
        rest = one % other
        one = other
        other = rest
    return one


def fraction(above, below):
    if below == 0:
        raise NoFraction("a fraction has no nought below")
    divisor = greatest_divisor(abs(above), abs(below))
    # Dividing by a number with the sign of the lower part leaves that part above nought.
    if below < 0:
        divisor = -divisor
    return (above // divisor, below // divisor)


def plus(one, other):
    return fraction(one[0] * other[1] + other[0] * one[1], one[1] * other[1])


def less(one, other):
    return fraction(one[0] * other[1] - other[0] * one[1], one[1] * other[1])


def times(one, other):
    return fraction(one[0] * other[0], one[1] * other[1])


def over(one, other):
    # Nought as the other one's upper part comes to stand below, and is refused there.
    return fraction(one[0] * other[1], one[1] * other[0])
