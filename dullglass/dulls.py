"""Glasses dulled, beside one another, mixed, with signs joined and with some stands kept."""

from dullglass.errors import NoFit, NoShare, TooMany
from dullglass.glasses import FEWEST_STANDS, MOST_SIGNS, column, lowest_table, paired, signs, stands
from dullglass.shares import is_part, is_whole


def dulled(glass, dulling):
    return passed_on(glass, dulling)


def behind(first, second):
    return passed_on(first, second)


# A glass and a dulling are passed on alike: both show, row by row, signs with shares.
def passed_on(table, dulling):
    if signs(table) != len(dulling[1]):
        raise NoFit("a dulling has one row for each sign that it is laid on")
    return lowest_table(table[0] * dulling[0], [passed_row(row, dulling) for row in table[1]])


def passed_row(row, dulling):
    return [paired(row, column(dulling[1], sign)) for sign in range(signs(dulling))]


def beside(one, other):
    check_alike_stands(one, other)
    check_not_too_many(signs(one) * signs(other))
    rows = [both_seen(row, beyond) for row, beyond in zip(one[1], other[1])]
    return lowest_table(one[0] * other[0], rows)


def both_seen(row, beyond):
    both = []
    for number in row:
        both.extend(scaled(beyond, number))
    return both


def mixed(part, one, other):
    if not is_part(part):
        raise NoShare("two glasses are mixed by a share from 0 to 1")
    check_alike_stands(one, other)
    check_not_too_many(signs(one) + signs(other))
    # Each side is brought to the bottom that both and the part have in common.
    weight = part[0] * other[0]
    rest = (part[1] - part[0]) * one[0]
    rows = [scaled(row, weight) + scaled(beyond, rest) for row, beyond in zip(one[1], other[1])]
    return lowest_table(part[1] * one[0] * other[0], rows)


def scaled(row, factor):
    return [number * factor for number in row]


def check_alike_stands(one, other):
    if stands(one) != stands(other):
        raise NoFit("both glasses are over as many stands")


def check_not_too_many(many):
    if many > MOST_SIGNS:
        raise TooMany("a glass has at most twelve signs")


def joined(glass, i, j):
    if not is_whole(i) or not is_whole(j) or not 0 <= i < j < signs(glass):
        raise NoFit("two signs of the glass are joined, the lesser number first")
    return lowest_table(glass[0], [joined_row(row, i, j) for row in glass[1]])


def joined_row(row, i, j):
    left = list(row)
    left[i] = row[i] + left.pop(j)
    return left


def kept(glass, some):
    if not is_rising_choice(some, stands(glass)):
        raise NoFit("a rising list of two or more of the glass's stands is kept")
    return lowest_table(glass[0], [glass[1][stand] for stand in some])


def is_rising_choice(some, many):
    if not isinstance(some, list) or len(some) < FEWEST_STANDS:
        return False
    if not all([is_whole(number) and 0 <= number < many for number in some]):
        return False
    return all([one < other for one, other in zip(some, some[1:])])
