import copy
import itertools
import random
import unittest
from fractions import Fraction

from dullglass.dulls import behind, beside, dulled, joined, kept, mixed
from dullglass.errors import NoFit, NoShare, TooMany
from dullglass.glasses import blind, clear, dulling_of, glass_of, is_dulling, is_glass, share_at, signs, stands
from dullglass.shares import share

from helpers import (
    BIG, a_dulling, a_glass, fractions_of, product, showing_itself, showing_one, small_glasses, table_of)
from test_glasses import TableCase
from test_shares import OUTSIDE, no_shares, strange

LONG = 10 ** 60 - 1
EYE = glass_of(6, [[3, 3, 0], [0, 2, 4]])


def wide(many_stands, many_signs):
    """A glass whose signs all have shares of their own."""
    bottom = many_signs * (many_signs + 1) // 2
    rising = list(range(1, many_signs + 1))
    return glass_of(bottom, [rising[k % many_signs:] + rising[:k % many_signs] for k in range(many_stands)])


class DullCase(TableCase):
    def is_a_glass(self, told):
        self.is_lowest(told)
        self.assertIs(is_glass(told), True)

    def is_a_dulling(self, told):
        self.is_lowest(told)
        self.assertIs(is_dulling(told), True)


class TestDulled(DullCase):
    def test_written_out(self):
        self.assertEqual(dulled(EYE, dulling_of(1, [[1, 0], [1, 0], [0, 1]])), (3, ((3, 0), (1, 2))))
        self.assertEqual(dulled(EYE, dulling_of(2, [[1, 1], [2, 0], [0, 2]])), (12, ((9, 3), (4, 8))))
        self.assertEqual(dulled(clear(2), dulling_of(3, [[2, 1], [1, 2]])), (3, ((2, 1), (1, 2))))
        self.assertEqual(dulled(glass_of(2, [[1, 1], [1, 1]]), dulling_of(1, [[1, 0], [0, 1]])), (2, ((1, 1), (1, 1))))

    def test_lowest_terms(self):
        told = dulled(glass_of(2, [[1, 1], [1, 1]]), dulling_of(2, [[2, 0], [0, 2]]))
        self.assertEqual(told, (2, ((1, 1), (1, 1))))
        told = dulled(glass_of(4, [[1, 3], [3, 1]]), dulling_of(2, [[1, 1], [1, 1]]))
        self.assertEqual(told, (2, ((1, 1), (1, 1))))

    def test_each_share_by_fractions(self):
        rng = random.Random(9)
        for many, old, new in itertools.product((2, 3, 4), (1, 2, 3, 4, 7, 12), (1, 2, 5, 12)):
            glass, dulling = a_glass(rng, many, old), a_dulling(rng, old, new)
            told = dulled(glass, dulling)
            self.is_a_glass(told)
            self.assertEqual((stands(told), signs(told)), (many, new))
            wanted = product(fractions_of(glass), fractions_of(dulling))
            self.assertEqual(told, table_of(wanted))
            for stand, sign in itertools.product(range(many), range(new)):
                self.assertEqual(Fraction(*share_at(told, stand, sign)), wanted[stand][sign])

    def test_small_ones_all(self):
        dullings = [dulling_of(2, rows) for rows in itertools.product([(0, 2), (1, 1), (2, 0)], repeat=2)]
        for glass, dulling in itertools.product(small_glasses(2, 2, 3), dullings):
            told = dulled(glass, dulling)
            self.is_a_glass(told)
            self.assertEqual(told, table_of(product(fractions_of(glass), fractions_of(dulling))))

    def test_each_sign_shown_itself(self):
        rng = random.Random(10)
        for many, many_signs in itertools.product((2, 3, 4), range(1, 13)):
            glass = a_glass(rng, many, many_signs)
            self.assertEqual(dulled(glass, showing_itself(many_signs)), glass)

    def test_all_signs_shown_as_one(self):
        rng = random.Random(11)
        for many, many_signs in itertools.product((2, 3, 4), range(1, 13)):
            self.assertEqual(dulled(a_glass(rng, many, many_signs), showing_one(many_signs)), blind(many))

    def test_the_clear_glass_becomes_the_rows_of_the_dulling(self):
        rng = random.Random(12)
        for many, new in itertools.product((2, 3, 4), range(1, 13)):
            dulling = a_dulling(rng, many, new)
            self.assertEqual(dulled(clear(many), dulling), dulling)

    def test_as_many_rows_as_signs(self):
        for many, many_signs, old in itertools.product((2, 3, 4), range(1, 13), range(1, 13)):
            glass = wide(many, many_signs)
            if many_signs == old:
                self.is_a_glass(dulled(glass, showing_itself(old)))
                continue
            for dulling in (showing_itself(old), showing_one(old), dulling_of(1, [[1] + [0] * 11] * old)):
                self.refused(NoFit, dulled, glass, dulling)

    def test_bottoms_of_six_figures_again_and_again(self):
        glass = glass_of(BIG, [[BIG - 1, 1], [2, BIG - 2]])
        dulling = dulling_of(BIG - 2, [[BIG - 5, 3], [7, BIG - 9]])
        wanted = fractions_of(glass)
        for again in range(8):
            glass = dulled(glass, dulling)
            wanted = product(wanted, fractions_of(dulling))
            self.is_a_glass(glass)
            self.assertEqual(glass, table_of(wanted))
        self.assertGreater(glass[0], 10 ** 50)


class TestBehind(DullCase):
    def test_written_out(self):
        first = dulling_of(2, [[1, 1], [2, 0], [0, 2]])
        self.assertEqual(behind(first, dulling_of(1, [[0, 1], [1, 0]])), (2, ((1, 1), (0, 2), (2, 0))))
        self.assertEqual(behind(first, dulling_of(3, [[1, 2], [3, 0]])), (3, ((2, 1), (1, 2), (3, 0))))
        self.assertEqual(behind(dulling_of(1, [[1]]), dulling_of(3, [[1, 2]])), (3, ((1, 2),)))
        self.assertEqual(behind(dulling_of(2, [[1, 1]]), dulling_of(2, [[1, 1], [1, 1]])), (2, ((1, 1),)))

    def test_the_same_as_both_in_turn(self):
        rng = random.Random(20)
        for many, old, between, new in itertools.product((2, 3, 4), (1, 3, 12), (1, 2, 5, 12), (1, 4, 12)):
            glass, first, second = a_glass(rng, many, old), a_dulling(rng, old, between), a_dulling(rng, between, new)
            told = behind(first, second)
            self.is_a_dulling(told)
            self.assertEqual((len(told[1]), signs(told)), (old, new))
            self.assertEqual(told, table_of(product(fractions_of(first), fractions_of(second))))
            self.assertEqual(dulled(glass, told), dulled(dulled(glass, first), second))

    def test_three_in_a_row(self):
        rng = random.Random(21)
        for again in range(30):
            sizes = [rng.randint(1, 12) for step in range(4)]
            one, two, three = [a_dulling(rng, old, new) for old, new in zip(sizes, sizes[1:])]
            self.assertEqual(behind(behind(one, two), three), behind(one, behind(two, three)))

    def test_by_itself_shown_and_by_one(self):
        rng = random.Random(22)
        for old, new in itertools.product(range(1, 13), (1, 2, 3, 11, 12)):
            dulling = a_dulling(rng, old, new)
            self.assertEqual(behind(dulling, showing_itself(new)), dulling)
            self.assertEqual(behind(showing_itself(old), dulling), dulling)
            self.assertEqual(behind(dulling, showing_one(new)), showing_one(old))

    def test_as_many_rows_as_new_signs(self):
        rng = random.Random(23)
        for old, between, rows in itertools.product((1, 2, 12), range(1, 13), range(1, 13)):
            first, second = a_dulling(rng, old, between), a_dulling(rng, rows, 2)
            if between == rows:
                self.is_a_dulling(behind(first, second))
            else:
                self.refused(NoFit, behind, first, second)


class TestBeside(DullCase):
    def test_written_out(self):
        told = beside(EYE, clear(2))
        self.assertEqual(told, (6, ((3, 0, 3, 0, 0, 0), (0, 0, 0, 2, 0, 4))))
        told = beside(clear(2), EYE)
        self.assertEqual(told, (6, ((3, 3, 0, 0, 0, 0), (0, 0, 0, 0, 2, 4))))
        half = glass_of(2, [[1, 1], [1, 1]])
        self.assertEqual(beside(half, half), (4, ((1, 1, 1, 1), (1, 1, 1, 1))))

    def test_lowest_terms(self):
        one = glass_of(4, [[1, 3], [4, 0]])
        other = glass_of(3, [[3, 0], [1, 2]])
        self.assertEqual(beside(one, other), (12, ((3, 0, 9, 0), (4, 8, 0, 0))))
        one = glass_of(2, [[1, 1], [0, 2], [0, 2]])
        other = glass_of(3, [[0, 3], [0, 3], [0, 3]])
        self.assertEqual(beside(one, other), (2, ((0, 1, 0, 1), (0, 0, 0, 2), (0, 0, 0, 2))))

    def test_the_sign_of_both_has_the_product(self):
        rng = random.Random(30)
        for many, first, second in itertools.product((2, 3, 4), range(1, 13), range(1, 13)):
            if first * second > 12:
                continue
            one, other = a_glass(rng, many, first), a_glass(rng, many, second)
            told = beside(one, other)
            self.is_a_glass(told)
            self.assertEqual((stands(told), signs(told)), (many, first * second))
            for stand, i, j in itertools.product(range(many), range(first), range(second)):
                wanted = Fraction(*share_at(one, stand, i)) * Fraction(*share_at(other, stand, j))
                self.assertEqual(Fraction(*share_at(told, stand, i * second + j)), wanted)

    def test_the_blind_glass_on_either_side(self):
        rng = random.Random(31)
        for many, many_signs in itertools.product((2, 3, 4), range(1, 13)):
            glass = a_glass(rng, many, many_signs)
            self.assertEqual(beside(glass, blind(many)), glass)
            self.assertEqual(beside(blind(many), glass), glass)

    def test_one_of_both_left_out_again(self):
        rng = random.Random(32)
        for many, first, second in itertools.product((2, 3, 4), (1, 2, 3), (1, 2, 4)):
            one, other = a_glass(rng, many, first), a_glass(rng, many, second)
            drop_other = dulling_of(1, [[1 if s == i else 0 for s in range(first)]
                                        for i in range(first) for j in range(second)])
            drop_one = dulling_of(1, [[1 if s == j else 0 for s in range(second)]
                                      for i in range(first) for j in range(second)])
            self.assertEqual(dulled(beside(one, other), drop_other), one)
            self.assertEqual(dulled(beside(one, other), drop_one), other)

    def test_unlike_stands_and_too_many_signs(self):
        for n, m, first, second in itertools.product((2, 3, 4), (2, 3, 4), (1, 2, 3, 4, 5, 6, 7, 12), (1, 2, 3, 4, 12)):
            one, other = wide(n, first), wide(m, second)
            if n != m:
                self.refused(NoFit, beside, one, other)
            elif first * second > 12:
                self.refused(TooMany, beside, one, other)
            else:
                self.is_a_glass(beside(one, other))


class TestMixed(DullCase):
    def test_written_out(self):
        self.assertEqual(mixed((1, 2), clear(2), blind(2)), (2, ((1, 0, 1), (0, 1, 1))))
        self.assertEqual(mixed((1, 3), clear(2), blind(2)), (3, ((1, 0, 2), (0, 1, 2))))
        self.assertEqual(mixed((1, 3), blind(2), clear(2)), (3, ((1, 2, 0), (1, 0, 2))))
        self.assertEqual(mixed((2, 5), EYE, clear(2)), (15, ((3, 3, 0, 9, 0), (0, 2, 4, 0, 9))))
        self.assertEqual(mixed((1, 2), blind(3), blind(3)), (2, ((1, 1), (1, 1), (1, 1))))

    def test_by_nought_and_by_one(self):
        self.assertEqual(mixed((0, 1), EYE, clear(2)), (1, ((0, 0, 0, 1, 0), (0, 0, 0, 0, 1))))
        self.assertEqual(mixed((1, 1), EYE, clear(2)), (6, ((3, 3, 0, 0, 0), (0, 2, 4, 0, 0))))
        self.assertEqual(mixed((1, 1), clear(2), EYE), (1, ((1, 0, 0, 0, 0), (0, 1, 0, 0, 0))))
        rng = random.Random(40)
        for many, first, second in itertools.product((2, 3, 4), (1, 4, 6, 11), (1, 5, 6)):
            if first + second > 12:
                continue
            one, other = a_glass(rng, many, first), a_glass(rng, many, second)
            told = mixed((1, 1), one, other)
            self.assertEqual(told, (one[0], tuple(row + (0,) * second for row in one[1])))
            told = mixed((0, 1), one, other)
            self.assertEqual(told, (other[0], tuple((0,) * first + row for row in other[1])))

    def test_each_share_by_fractions(self):
        rng = random.Random(41)
        parts = [(0, 1), (1, 1), (1, 2), (2, 3), (1, BIG), (BIG - 1, BIG), share(LONG - 1, LONG), share(1, LONG)]
        for many, first, second, part in itertools.product((2, 3, 4), (1, 2, 5, 11), (1, 3, 7, 11), parts):
            if first + second > 12:
                continue
            one, other = a_glass(rng, many, first), a_glass(rng, many, second)
            told = mixed(part, one, other)
            self.is_a_glass(told)
            p = Fraction(*part)
            wanted = [[p * number for number in row] + [(1 - p) * number for number in beyond]
                      for row, beyond in zip(fractions_of(one), fractions_of(other))]
            self.assertEqual(told, table_of(wanted))

    def test_no_share_from_nought_to_one(self):
        for part in OUTSIDE + no_shares():
            self.refused(NoShare, mixed, part, clear(2), EYE)

    def test_twelve_signs_and_more(self):
        half = (1, 2)
        for first, second in itertools.product(range(1, 13), range(1, 13)):
            one, other = wide(2, first), wide(2, second)
            if first + second <= 12:
                self.assertEqual(signs(mixed(half, one, other)), first + second)
            else:
                for part in (half, (0, 1), (1, 1)):
                    self.refused(TooMany, mixed, part, one, other)

    def test_which_refusal_goes_first(self):
        for first, second in ((1, 1), (6, 6), (6, 7), (12, 12)):
            for n, m in itertools.permutations((2, 3, 4), 2):
                one, other = wide(n, first), wide(m, second)
                self.refused(NoFit, mixed, (1, 2), one, other)
                self.refused(NoFit, mixed, (0, 1), one, other)
                self.refused(NoFit, mixed, (1, 1), one, other)
                self.refused(NoShare, mixed, (3, 2), one, other)
                self.refused(NoShare, mixed, (-1, 2), one, other)
        self.refused(NoShare, mixed, (3, 2), wide(2, 6), wide(2, 7))


class TestJoined(DullCase):
    def test_written_out(self):
        self.assertEqual(joined(EYE, 0, 1), (3, ((3, 0), (1, 2))))
        self.assertEqual(joined(EYE, 0, 2), (6, ((3, 3), (4, 2))))
        self.assertEqual(joined(EYE, 1, 2), (2, ((1, 1), (0, 2))))
        self.assertEqual(joined(clear(2), 0, 1), blind(2))
        four = glass_of(10, [[1, 2, 3, 4], [4, 3, 2, 1], [0, 0, 0, 10]])
        self.assertEqual(joined(four, 0, 1), (10, ((3, 3, 4), (7, 2, 1), (0, 0, 10))))
        self.assertEqual(joined(four, 0, 3), (10, ((5, 2, 3), (5, 3, 2), (10, 0, 0))))
        self.assertEqual(joined(four, 1, 3), (10, ((1, 6, 3), (4, 4, 2), (0, 10, 0))))

    def test_lowest_terms(self):
        self.assertEqual(joined(glass_of(2, [[1, 1], [1, 1]]), 0, 1), (1, ((1,), (1,))))
        self.assertEqual(joined(glass_of(4, [[1, 1, 2], [3, 1, 0]]), 0, 1), (2, ((1, 1), (2, 0))))

    def test_all_signs_of_many_glasses(self):
        rng = random.Random(50)
        for many, many_signs in itertools.product((2, 3, 4), range(1, 13)):
            glass = a_glass(rng, many, many_signs)
            for i, j in itertools.product(range(-2, many_signs + 2), repeat=2):
                if not 0 <= i < j < many_signs:
                    self.refused(NoFit, joined, glass, i, j)
                    continue
                told = joined(glass, i, j)
                self.is_a_glass(told)
                wanted = [[row[i] + row[j] if k == i else row[k] for k in range(many_signs) if k != j]
                          for row in fractions_of(glass)]
                self.assertEqual(told, table_of(wanted))

    def test_no_such_signs(self):
        for i, j in ((0, 0), (1, 1), (1, 0), (2, 1), (2, 0), (-1, 0), (-1, 1), (-2, -1), (0, -1), (0, 3), (1, 3),
                     (2, 3), (3, 4), (0, LONG), (-LONG, 1), (LONG, LONG + 1)):
            self.refused(NoFit, joined, EYE, i, j)
        for i, j in ((False, True), (0, True), (False, 1), (False, 2)):
            self.refused(NoFit, joined, EYE, i, j)
        for glass in (blind(2), blind(3), blind(4)):
            self.refused(NoFit, joined, glass, 0, 0)
            self.refused(NoFit, joined, glass, 0, 1)


class TestKept(DullCase):
    def test_written_out(self):
        glass = glass_of(4, [[1, 3, 0], [4, 0, 0], [2, 2, 0], [0, 2, 2]])
        self.assertEqual(kept(glass, [0, 1]), (4, ((1, 3, 0), (4, 0, 0))))
        self.assertEqual(kept(glass, [0, 3]), (4, ((1, 3, 0), (0, 2, 2))))
        self.assertEqual(kept(glass, [1, 2]), (2, ((2, 0, 0), (1, 1, 0))))
        self.assertEqual(kept(glass, [1, 2, 3]), (2, ((2, 0, 0), (1, 1, 0), (0, 1, 1))))
        self.assertEqual(kept(glass, [0, 1, 2, 3]), glass)
        self.assertEqual(kept(clear(3), [0, 2]), (1, ((1, 0, 0), (0, 0, 1))))

    def test_all_choices_of_many_glasses(self):
        rng = random.Random(60)
        for many, many_signs in itertools.product((2, 3, 4), (1, 2, 4, 12)):
            glass = a_glass(rng, many, many_signs)
            numbers = range(-1, many + 1)
            for long in range(6):
                for some in itertools.product(numbers, repeat=long):
                    self.one_choice(glass, many, list(some))

    def one_choice(self, glass, many, some):
        before = list(some)
        good = len(some) >= 2 and all(0 <= one < many for one in some) and sorted(set(some)) == some
        if good:
            told = kept(glass, some)
            self.is_a_glass(told)
            self.assertEqual(told, table_of([fractions_of(glass)[stand] for stand in some]))
        else:
            self.refused(NoFit, kept, glass, some)
        self.assertEqual(some, before)

    def test_no_rising_list_of_stands(self):
        for some in ([], [0], [1], [0, 0], [1, 0], [0, 1, 1], [0, 2, 1], [0, 3], [-1, 0], [-1, 1], [0, 1, 2, 3],
                     [0, LONG], [-LONG, 1], [False, True], [0, True], [False, 1, 2], [0, None], ["0", "1"], [[0], [1]],
                     [0] * 400, list(range(400))):
            self.refused(NoFit, kept, clear(3), some)

    def test_no_list(self):
        for some in strange() + [(0, 1), "01", {0: 1, 1: 2}, 2]:
            if type(some) is not list or some != [1, 2]:
                self.refused(NoFit, kept, clear(3), some)


class TestNothingChanged(DullCase):
    def test_what_is_handed_in_and_asked_again(self):
        glass, other = wide(3, 3), glass_of(5, [[1, 4, 0], [2, 2, 1], [5, 0, 0]])
        dulling, second = dulling_of(2, [[1, 1], [2, 0], [0, 2]]), dulling_of(3, [[1, 2], [3, 0]])
        part = (1, 3)
        handed = [glass, other, dulling, second, part]
        before = copy.deepcopy(handed)
        asks = [lambda: dulled(glass, dulling), lambda: behind(dulling, second), lambda: beside(glass, other),
                lambda: mixed(part, glass, other), lambda: joined(glass, 0, 2), lambda: kept(glass, [0, 2])]
        told = [ask() for ask in asks]
        again = [ask() for ask in asks]
        self.assertEqual(told, again)
        self.assertEqual(handed, before)
        for table in told:
            self.is_lowest(table)

    def test_the_list_of_stands_changed_later(self):
        glass = wide(4, 3)
        some = [0, 2, 3]
        told = kept(glass, some)
        wanted = copy.deepcopy(told)
        self.assertEqual(some, [0, 2, 3])
        some[1] = 1
        some.append(7)
        self.assertEqual(told, wanted)
        self.assertEqual(kept(glass, [0, 2, 3]), wanted)


if __name__ == "__main__":
    unittest.main()
