import copy
import itertools
import random
import unittest
from fractions import Fraction

from dullglass.compare import alike
from dullglass.dulls import behind, dulled, joined, mixed
from dullglass.glasses import blind, clear, glass_of, is_dulling, is_glass, signs, stands
from dullglass.least import least

from helpers import (
    BIG, a_dulling, a_glass, fractions_of, loosened, product, row_of, showing_itself, showing_one, small_glasses,
    table_of)
from test_glasses import TableCase

EYE = glass_of(6, [[3, 3, 0], [0, 2, 4]])


def columns_of(glass):
    return [list(column) for column in zip(*fractions_of(glass))]


def wanted(glass):
    """The least form, there and back, as the document tells them, by fractions."""
    columns = columns_of(glass)
    groups = {}
    for sign, column in enumerate(columns):
        if sum(column) > 0:
            groups.setdefault(tuple(number / sum(column) for number in column), []).append(sign)
    joins = sorted((tuple(sum(columns[sign][stand] for sign in group) for stand in range(stands(glass))), group)
                   for group in groups.values())
    places = {sign: place for place, (column, group) in enumerate(joins) for sign in group}
    there = [[Fraction(int(places.get(sign, 0) == place)) for place in range(len(joins))]
             for sign in range(len(columns))]
    back = [[sum(columns[sign]) / sum(column) if sign in group else Fraction(0) for sign in range(len(columns))]
            for column, group in joins]
    return (table_of(list(zip(*[column for column, group in joins]))), table_of(there), table_of(back))


def with_likes(rng, many, wide):
    """A glass in which some signs are the same but for a fraction, and some are never seen."""
    return loosened(rng, a_glass(rng, many, rng.randint(1, wide)), wide)


class LeastCase(TableCase):
    def holds(self, glass):
        before = copy.deepcopy(glass)
        told = least(glass)
        self.assertEqual(glass, before)
        self.assertIs(type(told), tuple)
        self.assertEqual(len(told), 3)
        form, there, back = told
        for table in told:
            self.is_lowest(table)
        self.assertIs(is_glass(form), True)
        self.assertIs(is_dulling(there), True)
        self.assertIs(is_dulling(back), True)
        self.assertEqual(dulled(glass, there), form)
        self.assertEqual(dulled(form, back), glass)
        self.assertEqual(product(fractions_of(glass), fractions_of(there)), fractions_of(form))
        self.assertEqual(product(fractions_of(form), fractions_of(back)), fractions_of(glass))
        self.assertEqual(told, wanted(glass))
        return told


class TestLeast(LeastCase):
    def test_written_out(self):
        self.assertEqual(least(EYE), (
            (6, ((0, 3, 3), (4, 0, 2))),
            (1, ((0, 1, 0), (0, 0, 1), (1, 0, 0))),
            (1, ((0, 0, 1), (1, 0, 0), (0, 1, 0)))))
        self.assertEqual(least(clear(2)), ((1, ((0, 1), (1, 0))), (1, ((0, 1), (1, 0))), (1, ((0, 1), (1, 0)))))
        self.assertEqual(least(blind(3)), (blind(3), (1, ((1,),)), (1, ((1,),))))

    def test_signs_joined(self):
        self.assertEqual(least(glass_of(6, [[1, 2, 3], [1, 2, 3]])),
                         (blind(2), showing_one(3), (6, ((1, 2, 3),))))
        # Sign 1 is half of sign 2, and both come behind sign 0 only when they are joined.
        self.assertEqual(least(glass_of(10, [[4, 2, 4], [7, 1, 2]])),
                         ((10, ((4, 6), (7, 3))), (1, ((1, 0), (0, 1), (0, 1))), (3, ((3, 0, 0), (0, 1, 2)))))
        self.assertEqual(least(glass_of(4, [[1, 0, 3, 0], [0, 3, 0, 1]])),
                         ((1, ((0, 1), (1, 0))), (1, ((0, 1), (1, 0), (0, 1), (1, 0))),
                          (4, ((0, 3, 0, 1), (1, 0, 3, 0)))))

    def test_lowest_terms_anew(self):
        self.assertEqual(least(glass_of(4, [[1, 1, 2], [1, 1, 2]]))[0], (1, ((1,), (1,))))
        self.assertEqual(least(glass_of(6, [[1, 2, 3], [2, 4, 0], [1, 2, 3]])),
                         ((2, ((1, 1), (0, 2), (1, 1))), (1, ((0, 1), (0, 1), (1, 0))), (3, ((0, 0, 3), (1, 2, 0)))))

    def test_signs_never_seen(self):
        self.assertEqual(least(glass_of(1, [[0, 1, 0], [0, 1, 0]])),
                         (blind(2), showing_one(3), (1, ((0, 1, 0),))))
        self.assertEqual(least(glass_of(2, [[0, 2, 0, 0], [0, 1, 0, 1]])),
                         ((2, ((0, 2), (1, 1))), (1, ((1, 0), (0, 1), (1, 0), (1, 0))),
                          (1, ((0, 0, 0, 1), (0, 1, 0, 0)))))

    def test_the_same_but_for_no_fraction(self):
        # A nought at one stand alone, and columns that differ at one stand only, or by another sum.
        for glass in (glass_of(3, [[0, 1, 2], [1, 1, 1]]), glass_of(7, [[1, 2, 4], [1, 2, 4], [1, 3, 3]]),
                      glass_of(6, [[1, 2, 3], [1, 2, 3], [2, 4, 0], [2, 1, 3]])):
            self.assertEqual(signs(least(glass)[0]), 3)
        self.assertEqual(signs(least(glass_of(6, [[1, 2, 3], [1, 2, 3], [2, 4, 0]]))[0]), 2)

    def test_sorted_by_columns(self):
        glass = glass_of(10, [[1, 2, 1, 2, 1, 3], [3, 1, 0, 4, 1, 1], [0, 2, 2, 0, 5, 1]])
        self.assertEqual(least(glass)[0], (10, ((1, 1, 1, 2, 2, 3), (0, 1, 3, 1, 4, 1), (2, 5, 0, 2, 0, 1))))
        # As numbers, not as texts are sorted.
        glass = glass_of(111, [[100, 9, 2], [1, 10, 100]])
        self.assertEqual(least(glass)[0], (111, ((2, 9, 100), (100, 10, 1))))

    def test_small_ones_all(self):
        for group in ((2, 1, 1), (2, 2, 3), (2, 3, 3), (2, 4, 2), (3, 2, 3), (3, 3, 2), (4, 2, 2), (4, 3, 1)):
            for glass in small_glasses(*group):
                self.holds(glass)

    def test_any_sizes(self):
        rng = random.Random(300)
        for many, wide in itertools.product((2, 3, 4), range(1, 13)):
            self.holds(a_glass(rng, many, wide))
            for again in range(4):
                self.holds(with_likes(rng, many, wide))

    def test_numbers_of_six_figures(self):
        rng = random.Random(301)
        for many, wide in itertools.product((2, 3, 4), (1, 2, 3, 6)):
            half = [row_of(rng, BIG // 3, wide) for stand in range(many)]
            glass = glass_of(BIG // 3 * 3, [row + [2 * number for number in row] for row in half])
            told = self.holds(glass)
            self.assertLessEqual(signs(told[0]), wide)

    def test_the_least_form_of_a_least_form(self):
        rng = random.Random(302)
        for many, wide, again in itertools.product((2, 3, 4), range(1, 13), range(3)):
            form = least(with_likes(rng, many, wide))[0]
            self.assertEqual(least(form), (form, showing_itself(signs(form)), showing_itself(signs(form))))

    def test_back_and_there_again(self):
        rng = random.Random(303)
        for many, wide in itertools.product((2, 3, 4), range(1, 13)):
            form, there, back = least(with_likes(rng, many, wide))
            self.assertEqual(behind(back, there), showing_itself(signs(form)))


class TestAlike(LeastCase):
    def test_just_where_the_least_forms_are_the_same(self):
        for groups in ([(2, 1, 1), (2, 2, 2), (2, 2, 3), (2, 3, 2)], [(3, 1, 1), (3, 2, 2)], [(4, 2, 1)]):
            glasses = sorted({glass for group in groups for glass in small_glasses(*group)})
            told = []
            for one, other in itertools.product(glasses, repeat=2):
                same = alike(one, other)
                self.assertIs(same, least(one)[0] == least(other)[0])
                told.append(same)
            self.assertGreater(told.count(True), len(glasses))

    def test_greater_ones(self):
        rng = random.Random(310)
        told = []
        for many, wide, again in itertools.product((2, 3, 4), (1, 2, 3, 4), range(6)):
            glass = a_glass(rng, many, wide, 999)
            more = loosened(rng, glass, 4)
            less = dulled(glass, a_dulling(rng, wide, rng.randint(1, 4), 999))
            for one, other in itertools.permutations([glass, more, less], 2):
                same = alike(one, other)
                self.assertIs(same, least(one)[0] == least(other)[0])
                told.append(same)
            self.assertEqual(least(more)[0], least(glass)[0])
        self.assertEqual(set(told), {True, False})

    def test_split_and_shuffled_into_twelve_signs(self):
        rng = random.Random(311)
        for many, wide in itertools.product((2, 3, 4), range(1, 13)):
            glass = a_glass(rng, many, wide)
            self.assertEqual(least(loosened(rng, glass, 12))[0], least(glass)[0])

    def test_mixed_with_itself(self):
        rng = random.Random(312)
        for many, wide in itertools.product((2, 3, 4), range(1, 7)):
            glass = a_glass(rng, many, wide)
            self.assertEqual(least(mixed((2, 7), glass, glass))[0], least(glass)[0])

    def test_none_with_fewer_signs_is_alike(self):
        for many, wide, bottom in ((2, 3, 2), (2, 2, 3), (3, 2, 2)):
            glasses = sorted(set(small_glasses(many, wide, bottom)))
            for one, other in itertools.product(glasses, repeat=2):
                form = least(one)[0]
                if alike(form, other):
                    self.assertGreaterEqual(signs(other), signs(form))
            for form in {least(glass)[0] for glass in glasses}:
                for fewer in range(1, signs(form)):
                    self.assertFalse(any(alike(form, other) for other in small_glasses(many, fewer, bottom)))

    def test_two_signs_of_a_least_form_joined_lose(self):
        rng = random.Random(313)
        for many, wide in itertools.product((2, 3, 4), (2, 3, 4)):
            form = least(a_glass(rng, many, wide))[0]
            for i, j in itertools.combinations(range(signs(form)), 2):
                self.assertIs(alike(form, joined(form, i, j)), False)


class TestNothingChanged(LeastCase):
    def test_asked_again_and_in_another_order(self):
        rng = random.Random(320)
        glasses = [with_likes(rng, 3, 6) for again in range(10)]
        before = copy.deepcopy(glasses)
        told = [least(glass) for glass in glasses]
        self.assertEqual([least(glass) for glass in reversed(glasses)], told[::-1])
        self.assertEqual(glasses, before)


if __name__ == "__main__":
    unittest.main()
