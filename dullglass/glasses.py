"""Glasses and dullings: tuples (bottom, rows) of whole numbers, each row coming to the bottom."""

from dullglass.errors import NoDulling, NoGlass
from dullglass.shares import divisor, is_whole, share

FEWEST_STANDS = 2
MOST_STANDS = 4
MOST_SIGNS = 12


def glass_of(bottom, rows):
    if not makes_table(bottom, rows, FEWEST_STANDS, MOST_STANDS):
        raise NoGlass("a glass has two to four rows of one to twelve numbers that come to its bottom")
    return lowest_table(bottom, rows)


def dulling_of(bottom, rows):
    if not makes_table(bottom, rows, 1, MOST_SIGNS):
        raise NoDulling("a dulling has one to twelve rows of one to twelve numbers that come to its bottom")
    return lowest_table(bottom, rows)


def is_glass(thing):
    return is_table(thing, FEWEST_STANDS, MOST_STANDS)


def is_dulling(thing):
    return is_table(thing, 1, MOST_SIGNS)


def makes_table(bottom, rows, fewest, most):
    if not is_whole(bottom) or bottom < 1:
        return False
    if not isinstance(rows, (list, tuple)) or not fewest <= len(rows) <= most:
        return False
    if not all([makes_row(row, bottom) for row in rows]):
        return False
    return all([len(row) == len(rows[0]) for row in rows])


def makes_row(row, bottom):
    if not isinstance(row, (list, tuple)) or not 1 <= len(row) <= MOST_SIGNS:
        return False
    # The numbers are summed only once each is known to be one: things of any kind are handed in.
    return all([is_whole(number) and number >= 0 for number in row]) and sum(row) == bottom


def is_table(thing, fewest, most):
    if not isinstance(thing, tuple) or len(thing) != 2:
        return False
    rows = thing[1]
    if not makes_table(thing[0], rows, fewest, most):
        return False
    if not isinstance(rows, tuple) or not all([isinstance(row, tuple) for row in rows]):
        return False
    return common_divisor(rows) == 1


# It needs no look at the bottom: what divides all numbers of a row divides their sum.
def common_divisor(rows):
    common = 0
    for row in rows:
        for number in row:
            common = divisor(common, number)
    return common


def lowest_table(bottom, rows):
    common = common_divisor(rows)
    return (bottom // common, tuple([divided(row, common) for row in rows]))


def divided(row, common):
    return tuple([number // common for number in row])


# Of rows of shares, each row coming to 1. The bottom is the least that all shares have in common, so
# nothing above 1 divides all numbers.
def table_of_shares(rows):
    bottom = 1
    for row in rows:
        for part in row:
            bottom = bottom * part[1] // divisor(bottom, part[1])
    return (bottom, tuple([over_bottom(row, bottom) for row in rows]))


def over_bottom(row, bottom):
    return tuple([part[0] * (bottom // part[1]) for part in row])


def share_at(glass, stand, sign):
    return share(glass[1][stand][sign], glass[0])


def stands(glass):
    return len(glass[1])


def signs(glass):
    return len(glass[1][0])


def column(rows, place):
    return [row[place] for row in rows]


# The numbers of the one times those of the other, pair by pair, summed.
def paired(one, other):
    return sum([number * beyond for number, beyond in zip(one, other)])


def clear(many):
    check_stands(many)
    return glass_of(1, [one_sign(stand, many) for stand in range(many)])


def blind(many):
    check_stands(many)
    return glass_of(1, [(1,) for stand in range(many)])


# Asked ahead of the rows, so that a great number builds no great list first.
def check_stands(many):
    if not is_whole(many) or not FEWEST_STANDS <= many <= MOST_STANDS:
        raise NoGlass("a glass has two to four stands")


def one_sign(place, many):
    return tuple([1 if sign == place else 0 for sign in range(many)])
