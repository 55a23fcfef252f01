"""What several test files reckon with: tables as fractions, apart from the program's own reckoning."""

import itertools
import math
from fractions import Fraction

from dullglass.glasses import dulling_of, glass_of

BIG = 999999


def fractions_of(table):
    bottom, rows = table
    return [[Fraction(number, bottom) for number in row] for row in rows]


def table_of(rows):
    """The glass or dulling with these fractions, its bottom their least common one."""
    bottom = math.lcm(*[number.denominator for row in rows for number in row])
    return (bottom, tuple(tuple(int(number * bottom) for number in row) for row in rows))


def row_of(rng, bottom, many):
    """Numbers, some of them 0, that come to the bottom."""
    cuts = [0] + sorted(rng.randint(0, bottom) for cut in range(many - 1)) + [bottom]
    row = [after - ahead for ahead, after in zip(cuts, cuts[1:])]
    rng.shuffle(row)
    return row


def a_glass(rng, stands, signs):
    bottom = rng.choice([1, 2, 3, 4, 6, 12, 60, rng.randint(1, BIG), BIG])
    return glass_of(bottom, [row_of(rng, bottom, signs) for stand in range(stands)])


def a_dulling(rng, old, new):
    bottom = rng.choice([1, 2, 3, 4, 6, 12, 60, rng.randint(1, BIG), BIG])
    return dulling_of(bottom, [row_of(rng, bottom, new) for sign in range(old)])


def small_glasses(stands, signs, bottom):
    """Every glass of so many stands and signs whose numbers are over this bottom, ahead of lowest terms."""
    rows = [row for row in itertools.product(range(bottom + 1), repeat=signs) if sum(row) == bottom]
    return [glass_of(bottom, choice) for choice in itertools.product(rows, repeat=stands)]
