"""Shares: exact numbers as tuples (top, bottom) in lowest terms, the bottom 1 or more."""

from dullglass.errors import NoShare


def is_whole(thing):
    # Python counts True and False among the ints; the document doesn't.
    return isinstance(thing, int) and not isinstance(thing, bool)


# The greatest whole number that divides both; 0 only where both are 0.
def divisor(one, other):
    one = abs(one)
    other = abs(other)
    while other != 0:
        rest = one % other
        one = other
        other = rest
    return one


def share(top, bottom):
    if not is_whole(top) or not is_whole(bottom) or bottom == 0:
        raise NoShare("a share is made of two whole numbers, the second one not 0")
    return reduced(top, bottom)


def reduced(top, bottom):
    common = divisor(top, bottom)
    if bottom < 0:
        # The sign stands with the top alone, so that each number is one share only.
        common = -common
    return (top // common, bottom // common)


def is_share(thing):
    if not isinstance(thing, tuple) or len(thing) != 2:
        return False
    if not is_whole(thing[0]) or not is_whole(thing[1]):
        return False
    return thing[1] >= 1 and divisor(thing[0], thing[1]) == 1


def is_part(thing):
    return is_share(thing) and 0 <= thing[0] <= thing[1]


def check_shares(one, other):
    if not is_share(one) or not is_share(other):
        raise NoShare("a share is a tuple of a top and a bottom in lowest terms, the bottom 1 or more")


def added(one, other):
    check_shares(one, other)
    return reduced(one[0] * other[1] + other[0] * one[1], one[1] * other[1])


def taken(one, other):
    check_shares(one, other)
    return reduced(one[0] * other[1] - other[0] * one[1], one[1] * other[1])


def times(one, other):
    check_shares(one, other)
    return reduced(one[0] * other[0], one[1] * other[1])


def below(one, other):
    check_shares(one, other)
    return one[0] * other[1] < other[0] * one[1]


def summed(some):
    total = (0, 1)
    for one in some:
        total = added(total, one)
    return total
