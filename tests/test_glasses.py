import copy
import math
import unittest

from dullglass.errors import NoDulling, NoGlass
from dullglass.glasses import (
    blind, clear, dulling_of, glass_of, is_dulling, is_glass, share_at, signs, stands)

from test_shares import strange

LONG = 10 ** 60 - 1

# (bottom, rows) that make a glass, and what they make.
GLASSES = [
    ((2, [[1, 1], [2, 0]]), (2, ((1, 1), (2, 0)))),
    ((12, [[6, 6, 0], [0, 4, 8]]), (6, ((3, 3, 0), (0, 2, 4)))),
    ((1, [[1], [1]]), (1, ((1,), (1,)))),
    ((7, [[7], [7], [7], [7]]), (1, ((1,), (1,), (1,), (1,)))),
    ((4, [[0, 4, 0], [4, 0, 0], [0, 0, 4]]), (1, ((0, 1, 0), (1, 0, 0), (0, 0, 1)))),
    ((6, [[2, 4], [4, 2]]), (3, ((1, 2), (2, 1)))),
    ((6, [[2, 4], [3, 3]]), (6, ((2, 4), (3, 3)))),
    ((6, [[0, 6], [0, 6], [2, 4], [4, 2]]), (3, ((0, 3), (0, 3), (1, 2), (2, 1)))),
    ((12, [[1] * 12, [12] + [0] * 11]), (12, ((1,) * 12, (12,) + (0,) * 11))),
    ((24, [[2] * 12, [0] * 11 + [24]]), (12, ((1,) * 12, (0,) * 11 + (12,)))),
    ((999999, [[999998, 1], [0, 999999]]), (999999, ((999998, 1), (0, 999999)))),
    ((999999, [[333333, 666666], [999999, 0]]), (3, ((1, 2), (3, 0)))),
    ((LONG, [[LONG - 1, 1], [0, LONG]]), (LONG, ((LONG - 1, 1), (0, LONG)))),
    ((3 * LONG, [[LONG, 2 * LONG], [0, 3 * LONG]]), (3, ((1, 2), (0, 3)))),
]

# The same that make a dulling alone: one row, or more than four.
DULLINGS = [
    ((1, [[1]]), (1, ((1,),))),
    ((9, [[9]]), (1, ((1,),))),
    ((6, [[2, 4]]), (3, ((1, 2),))),
    ((2, [[1, 1]] * 5), (2, ((1, 1),) * 5)),
    ((4, [[2, 2, 0]] * 11 + [[0, 0, 4]]), (2, ((1, 1, 0),) * 11 + ((0, 0, 2),))),
    ((12, [[1] * 12] * 12), (12, ((1,) * 12,) * 12)),
]

# (bottom, rows) that make neither.
NEITHER = [
    (0, [[0, 0], [0, 0]]),
    (0, [[], []]),
    (0, [[1, -1], [0, 0]]),
    (-1, [[-1], [-1]]),
    (-2, [[1, 1], [1, 1]]),
    (True, [[1], [1]]),
    ("1", [[1], [1]]),
    (2, [[1, 1], [1, 2]]),
    (2, [[1, 1], [1, 0]]),
    (3, [[1, 1], [1, 1]]),
    (1, [[1, 1], [1, 1]]),
    (4, [[1, 1], [1, 1]]),
    (1, [[2, -1], [1, 0]]),
    (1, [[1, 0], [2, -1]]),
    (1, [[1, False], [1, 0]]),
    (1, [[True, 0], [1, 0]]),
    (1, [[1, 0], [True, 0]]),
    (2, [[1, 1], [2]]),
    (2, [[2], [1, 1]]),
    (2, [[1, 1], [1, 1, 0]]),
    (2, [[1, 1, 0], [1, 1]]),
    (2, [[1, 1], []]),
    (2, [[], [1, 1]]),
    (2, [[], []]),
    (2, []),
    (2, ()),
    (2, [[1, 1], 2]),
    (2, [2, [1, 1]]),
    (2, [[1, 1], None]),
    (2, [[1, 1], "11"]),
    (2, ["11", "11"]),
    (2, [[1, 1], {1: 1, 0: 1}]),
    (2, [[1, 1], {0, 2}]),
    (2, [[1, 1], range(3)]),
    (2, {0: [1, 1], 1: [1, 1]}),
    (2, [1, 1]),
    (2, "1 1 | 1 1"),
    (2, [[[1, 1], [1, 1]], [[1, 1], [1, 1]]]),
    (13, [[1] * 13, [1] * 13]),
    (1, [[1] + [0] * 12, [1] + [0] * 12]),
    (1, [[1] + [0] * 12, [1]]),
    (1, [[1]] * 13),
    (1, [[1]] * 400),
    (400, [[1] * 400] * 2),
    (LONG, [[LONG, 1], [LONG, 0]]),
]

# These make a dulling, but no glass.
FEW_OR_MANY = [(2, [[1, 1]]), (2, [[1, 1]] * 5), (2, [[1, 1]] * 12)]


def in_tuples(rows):
    return tuple(tuple(row) for row in rows)


def doubled(table):
    return (2 * table[0], tuple(tuple(2 * number for number in row) for row in table[1]))


def frozen(rows):
    """The same with tuples in the place of lists, where there are rows at all."""
    if not isinstance(rows, list):
        return rows
    return tuple(tuple(row) if isinstance(row, list) else row for row in rows)


class TableCase(unittest.TestCase):
    def is_lowest(self, told):
        bottom, rows = told
        self.assertIs(type(told), tuple)
        self.assertIs(type(bottom), int)
        self.assertIs(type(rows), tuple)
        for row in rows:
            self.assertIs(type(row), tuple)
            self.assertEqual({type(number) for number in row}, {int})
            self.assertEqual(sum(row), bottom)
        self.assertEqual(math.gcd(*[number for row in rows for number in row]), 1)

    def refused(self, kind, ask, *handed):
        with self.assertRaises(kind) as caught:
            ask(*handed)
        self.assertIs(type(caught.exception), kind)


class TestMade(TableCase):
    def made(self, make, cases):
        for (bottom, rows), wanted in cases:
            before = copy.deepcopy(rows)
            for handed in (rows, in_tuples(rows), tuple(rows), [tuple(row) for row in rows]):
                told = make(bottom, handed)
                self.assertEqual(told, wanted)
                self.is_lowest(told)
            self.assertEqual(rows, before)

    def test_glasses(self):
        self.made(glass_of, GLASSES)

    def test_dullings(self):
        self.made(dulling_of, GLASSES + DULLINGS)

    def test_lists_changed_later_change_nothing(self):
        for make in (glass_of, dulling_of):
            rows = [[1, 2], [3, 0]]
            told = make(3, rows)
            rows[0][0] = 3
            rows[1].append(5)
            rows.append([0, 3])
            self.assertEqual(told, (3, ((1, 2), (3, 0))))
            self.assertEqual(make(3, [[1, 2], [3, 0]]), told)

    def test_one_row_handed_in_twice(self):
        row = [2, 2]
        self.assertEqual(glass_of(4, [row, row]), (2, ((1, 1), (1, 1))))
        self.assertEqual(row, [2, 2])

    def test_no_divisor_of_one_row_alone_is_cut(self):
        self.assertEqual(glass_of(4, [[2, 2], [1, 3]]), (4, ((2, 2), (1, 3))))
        self.assertEqual(dulling_of(4, [[1, 3], [2, 2], [4, 0]]), (4, ((1, 3), (2, 2), (4, 0))))

    def test_what_is_told_may_be_handed_in(self):
        for (bottom, rows), wanted in GLASSES:
            self.assertEqual(glass_of(*wanted), wanted)
            longer = tuple(tuple(number * LONG ** 3 for number in row) for row in wanted[1])
            self.assertEqual(glass_of(wanted[0] * LONG ** 3, longer), wanted)


class TestRefused(TableCase):
    def test_neither_glass_nor_dulling(self):
        for bottom, rows in NEITHER:
            for handed in (rows, frozen(rows)):
                self.refused(NoGlass, glass_of, bottom, handed)
                self.refused(NoDulling, dulling_of, bottom, handed)

    def test_too_few_or_too_many_stands(self):
        for bottom, rows in FEW_OR_MANY:
            self.refused(NoGlass, glass_of, bottom, rows)
            self.assertEqual(dulling_of(bottom, rows), (bottom, in_tuples(rows)))

    def test_strange_things_in_each_place(self):
        for make, kind in ((glass_of, NoGlass), (dulling_of, NoDulling)):
            for thing in strange():
                self.refused(kind, make, thing, [[1, 1], [1, 1]])
                self.refused(kind, make, 2, [thing, [1, 1]])
                self.refused(kind, make, 2, [[1, 1], thing])
                self.refused(kind, make, 2, [[1, 1], [1, thing]])
                self.refused(kind, make, 2, [[thing, 1], [1, 1]])
                self.refused(kind, make, 2, [[2, thing], [2, thing]])
            for thing in strange():
                self.refused(kind, make, 2, thing)
                self.refused(kind, make, thing, thing)

    def test_rows_that_hold_themselves(self):
        rows = []
        rows.append(rows)
        rows.append(rows)
        self.refused(NoGlass, glass_of, 2, rows)
        self.refused(NoDulling, dulling_of, 2, rows)

    def test_what_is_refused_is_not_changed(self):
        for bottom, rows in NEITHER:
            before = copy.deepcopy(rows)
            self.refused(NoGlass, glass_of, bottom, rows)
            self.assertEqual(rows, before)


class TestAsked(TableCase):
    def test_what_is_made_is_one(self):
        for (bottom, rows), wanted in GLASSES:
            self.assertIs(is_glass(wanted), True)
            self.assertIs(is_dulling(wanted), True)
        for (bottom, rows), wanted in DULLINGS:
            self.assertIs(is_glass(wanted), False)
            self.assertIs(is_dulling(wanted), True)

    def test_doubled_is_none(self):
        for (bottom, rows), wanted in GLASSES + DULLINGS:
            self.assertIs(is_glass(doubled(wanted)), False)
            self.assertIs(is_dulling(doubled(wanted)), False)

    def test_other_common_divisors(self):
        for factor in (3, 5, 35, LONG):
            thing = (3 * factor, ((factor, 2 * factor), (3 * factor, 0)))
            self.assertIs(is_glass(thing), False)
            self.assertIs(is_dulling(thing), False)

    def test_lists_in_the_place_of_tuples(self):
        for thing in ([2, ((1, 1), (2, 0))], (2, [(1, 1), (2, 0)]), (2, ([1, 1], (2, 0))), (2, ((1, 1), [2, 0]))):
            self.assertIs(is_glass(thing), False)
            self.assertIs(is_dulling(thing), False)

    def test_neither(self):
        for bottom, rows in NEITHER:
            self.assertIs(is_glass((bottom, frozen(rows))), False)
            self.assertIs(is_dulling((bottom, frozen(rows))), False)

    def test_no_pair_at_all(self):
        rows = ((1, 1), (2, 0))
        for thing in strange() + [(2,), (2, rows, 0), (rows,), rows, (rows, 2), 2, -1, LONG, (2, rows, None), ((2, rows),)]:
            self.assertIs(is_glass(thing), False)
            self.assertIs(is_dulling(thing), False)

    def test_strange_things_in_each_place(self):
        for thing in strange():
            wrong = [(thing, ((1, 1), (1, 1))), (2, (thing, (1, 1))), (2, ((2, thing), (1, 1))), (2, ((1, 1), (thing, 1)))]
            for table in wrong:
                self.assertIs(is_glass(table), False)
                self.assertIs(is_dulling(table), False)
        for thing in strange():
            self.assertIs(is_glass((2, thing)), False)
            self.assertIs(is_dulling((2, thing)), False)

    def test_deep_things(self):
        thing = 1
        for again in range(100):
            thing = (2, (thing, thing))
        self.assertIs(is_glass(thing), False)
        self.assertIs(is_dulling(thing), False)


class TestTold(TableCase):
    def test_how_many(self):
        for (bottom, rows), wanted in GLASSES:
            self.assertEqual(stands(wanted), len(rows))
            self.assertEqual(signs(wanted), len(rows[0]))
            self.assertIs(type(stands(wanted)), int)
            self.assertIs(type(signs(wanted)), int)

    def test_shares_at_each_stand_and_sign(self):
        for (bottom, rows), wanted in GLASSES:
            for stand, row in enumerate(rows):
                for sign, number in enumerate(row):
                    top, under = share_at(wanted, stand, sign)
                    self.assertEqual(top * bottom, number * under)
                    self.assertGreaterEqual(under, 1)
                    self.assertEqual(math.gcd(top, under), 1)

    def test_shares_written_out(self):
        glass = glass_of(12, [[6, 6, 0], [0, 4, 8]])
        told = [[share_at(glass, stand, sign) for sign in range(3)] for stand in range(2)]
        self.assertEqual(told, [[(1, 2), (1, 2), (0, 1)], [(0, 1), (1, 3), (2, 3)]])


class TestClearAndBlind(TableCase):
    def test_clear(self):
        self.assertEqual(clear(2), (1, ((1, 0), (0, 1))))
        self.assertEqual(clear(3), (1, ((1, 0, 0), (0, 1, 0), (0, 0, 1))))
        self.assertEqual(clear(4), (1, ((1, 0, 0, 0), (0, 1, 0, 0), (0, 0, 1, 0), (0, 0, 0, 1))))

    def test_blind(self):
        self.assertEqual(blind(2), (1, ((1,), (1,))))
        self.assertEqual(blind(3), (1, ((1,), (1,), (1,))))
        self.assertEqual(blind(4), (1, ((1,), (1,), (1,), (1,))))

    def test_they_are_glasses(self):
        for many in (2, 3, 4):
            for glass, wide in ((clear(many), many), (blind(many), 1)):
                self.is_lowest(glass)
                self.assertIs(is_glass(glass), True)
                self.assertEqual((stands(glass), signs(glass)), (many, wide))

    def test_the_shares_of_the_clear_one(self):
        for many in (2, 3, 4):
            for stand in range(many):
                for sign in range(many):
                    wanted = (1, 1) if sign == stand else (0, 1)
                    self.assertEqual(share_at(clear(many), stand, sign), wanted)
                self.assertEqual(share_at(blind(many), stand, 0), (1, 1))

    def test_other_stands_make_no_glass(self):
        for many in [0, 1, 5, -2, LONG] + strange():
            self.refused(NoGlass, clear, many)
            self.refused(NoGlass, blind, many)


if __name__ == "__main__":
    unittest.main()
