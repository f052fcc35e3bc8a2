"""Fractions: tuples (top, bottom) in lowest terms, bottom from 1 on."""

from keel.errors import NoNumber


def is_whole(thing):
    # Python counts True and False among the ints.
    return isinstance(thing, int) and not isinstance(thing, bool)


def greatest_divisor(one, other):
    while other != 0:
        rest = one % other
        one = other
        other = rest
    return one


def fraction(top, bottom):
    if bottom == 0:
        raise NoNumber("the second number of a fraction is 0")
    divisor = greatest_divisor(abs(top), abs(bottom))
    if bottom < 0:
        # The sign belongs to the top alone, so both are turned.
        divisor = -divisor
    return (top // divisor, bottom // divisor)


def plus(one, other):
    return fraction(one[0] * other[1] + other[0] * one[1], one[1] * other[1])


def minus(one, other):
    return fraction(one[0] * other[1] - other[0] * one[1], one[1] * other[1])


def times(one, other):
    return fraction(one[0] * other[0], one[1] * other[1])


def under(one, other):
    # Both bottoms are above 0, so multiplying by them keeps the order.
    return one[0] * other[1] < other[0] * one[1]
