"""What several test files reckon with: tables as fractions, apart from the program's own reckoning."""

import itertools
import math
from fractions import Fraction

from dullglass.glasses import dulling_of, glass_of

BIG = 999999


def fractions_of(table):
    bottom, rows = table
    return [[Fraction(number, bottom) for number in row] for row in rows]


def table_of(rows):
    """The glass or dulling with these fractions, its bottom their least common one."""
    bottom = math.lcm(*[number.denominator for row in rows for number in row])
    return (bottom, tuple(tuple(int(number * bottom) for number in row) for row in rows))


def row_of(rng, bottom, many):
    """Numbers, some of them 0, that come to the bottom."""
    cuts = [0] + sorted(rng.randint(0, bottom) for cut in range(many - 1)) + [bottom]
    row = [after - ahead for ahead, after in zip(cuts, cuts[1:])]
    rng.shuffle(row)
    return row


def a_bottom(rng, most):
    return rng.choice([1, 2, 3, 4, 6, 12, 60, rng.randint(1, most), most])


def a_glass(rng, stands, signs, most=BIG):
    bottom = a_bottom(rng, most)
    return glass_of(bottom, [row_of(rng, bottom, signs) for stand in range(stands)])


def a_dulling(rng, old, new, most=BIG):
    bottom = a_bottom(rng, most)
    return dulling_of(bottom, [row_of(rng, bottom, new) for sign in range(old)])


def small_glasses(stands, signs, bottom):
    """Every glass of so many stands and signs whose numbers are over this bottom, ahead of lowest terms."""
    rows = [row for row in itertools.product(range(bottom + 1), repeat=signs) if sum(row) == bottom]
    return [glass_of(bottom, choice) for choice in itertools.product(rows, repeat=stands)]


def showing_itself(many):
    return dulling_of(1, [[1 if new == old else 0 for new in range(many)] for old in range(many)])


def showing_one(many):
    return dulling_of(1, [[1]] * many)


def product(rows, table):
    columns = list(zip(*table))
    return [[sum(a * b for a, b in zip(row, column)) for column in columns] for row in rows]


def most_gained(glass, payoffs):
    """What the best plan gains: of each sign the act that brings the most."""
    columns = list(zip(*fractions_of(glass)))
    acts = list(zip(*payoffs))
    return sum(max(sum(a * b for a, b in zip(column, act)) for act in acts) for column in columns)


def loosened(rng, glass, many):
    """A glass of so many signs, at least as many as the glass has, that is alike to it: some of its signs are
    split, some that are never seen are laid between, and all are shuffled."""
    columns = [list(column) for column in zip(*fractions_of(glass))]
    while len(columns) < many:
        column = rng.choice(columns)
        part = Fraction(rng.randint(0, 3), rng.randint(3, 7))
        columns[columns.index(column)] = [number - number * part for number in column]
        columns.append([number * part for number in column])
    rng.shuffle(columns)
    return table_of([list(row) for row in zip(*columns)])
