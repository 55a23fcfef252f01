import copy
import itertools
import random
import unittest
from fractions import Fraction

from dullglass.compare import compared
from dullglass.curves import curve, height, held
from dullglass.decisions import best
from dullglass.dulls import beside, dulled, joined, mixed
from dullglass.errors import NoFit, NoShare
from dullglass.glasses import blind, clear, glass_of, signs
from dullglass.least import least
from dullglass.shares import share

from helpers import BIG, a_dulling, a_glass, fractions_of, loosened, most_gained, row_of, small_glasses
from test_glasses import LONG, TableCase
from test_shares import OUTSIDE, ShareCase, no_shares

EYE = glass_of(6, [[3, 3, 0], [0, 2, 4]])
LOW, HIGH = (0, 1), (1, 1)
GROUPS = [(2, 1, 1), (2, 2, 3), (2, 2, 5), (2, 3, 3), (2, 4, 2), (2, 5, 1)]
# One over three and one over four stands, which have no curve.
WIDER = [clear(3), blind(3), clear(4), blind(4), glass_of(4, [[1, 3], [2, 2], [4, 0]])]


def share_of(number):
    return (number.numerator, number.denominator)


def number_of(point):
    return (Fraction(*point[0]), Fraction(*point[1]))


def wanted_curve(glass):
    """The corners as the document tells them, by fractions: the signs by how small their part of stand 0 is."""
    steps = {}
    for x, y in zip(*fractions_of(glass)):
        if x + y > 0:
            steps.setdefault(x / (x + y), []).append((x, y))
    corners = [(Fraction(0), Fraction(0))]
    for part in sorted(steps):
        corners.append((corners[-1][0] + sum(x for x, y in steps[part]),
                        corners[-1][1] + sum(y for x, y in steps[part])))
    return corners


def wanted_height(corners, x):
    """The greatest y at x of all corners and lines."""
    found = [corner[1] for corner in corners if corner[0] == x]
    for (left, low), (right, high) in zip(corners, corners[1:]):
        if left < right and left <= x <= right:
            found.append(low + (high - low) * (x - left) / (right - left))
    return max(found)


def shuffled(rng, glass):
    columns = list(zip(*glass[1]))
    rng.shuffle(columns)
    return (glass[0], tuple(zip(*columns)))


def nearly_as_steep(rng, bottom, many):
    """Signs whose numbers at the stands differ by next to nothing, each a little."""
    rows = [[bottom // many + rng.randint(-2, 2) for sign in range(many - 1)] for stand in range(2)]
    return glass_of(bottom, [row + [bottom - sum(row)] for row in rows])


class CurveCase(TableCase):
    is_share = ShareCase.is_share

    def holds(self, glass):
        before = copy.deepcopy(glass)
        told = curve(glass)
        self.assertEqual(glass, before)
        self.assertIs(type(told), list)
        for point in told:
            self.assertIs(type(point), tuple)
            self.assertEqual(len(point), 2)
            self.is_share(point[0])
            self.is_share(point[1])
        self.assertEqual(told[0], (LOW, LOW))
        self.assertEqual(told[-1], (HIGH, HIGH))
        corners = [number_of(point) for point in told]
        self.assertEqual(corners, wanted_curve(glass))
        self.less_and_less_steep(corners)
        return told

    def less_and_less_steep(self, corners):
        steps = [(after[0] - ahead[0], after[1] - ahead[1]) for ahead, after in zip(corners, corners[1:])]
        for run, rise in steps:
            self.assertGreaterEqual(run, 0)
            self.assertGreaterEqual(rise, 0)
            self.assertGreater(run + rise, 0)
        for one, other in zip(steps, steps[1:]):
            self.assertGreater(one[1] * other[0], other[1] * one[0])


class TestCurve(CurveCase):
    def test_written_out(self):
        self.assertEqual(curve(EYE), [(LOW, LOW), (LOW, (2, 3)), ((1, 2), HIGH), (HIGH, HIGH)])
        self.assertEqual(curve(clear(2)), [(LOW, LOW), (LOW, HIGH), (HIGH, HIGH)])
        self.assertEqual(curve(blind(2)), [(LOW, LOW), (HIGH, HIGH)])
        self.assertEqual(curve(glass_of(10, [[1, 2, 3, 4], [4, 3, 2, 1]])),
                         [(LOW, LOW), ((1, 10), (2, 5)), ((3, 10), (7, 10)), ((3, 5), (9, 10)), (HIGH, HIGH)])

    def test_the_steepest_first(self):
        wanted = [(LOW, LOW), ((1, 6), (1, 2)), ((1, 2), (5, 6)), (HIGH, HIGH)]
        for places in itertools.permutations(range(3)):
            glass = glass_of(6, [[[1, 2, 3][k] for k in places], [[3, 2, 1][k] for k in places]])
            self.assertEqual(curve(glass), wanted)

    def test_signs_never_seen(self):
        self.assertEqual(curve(glass_of(2, [[0, 1, 0, 1, 0], [0, 0, 0, 2, 0]])),
                         [(LOW, LOW), ((1, 2), HIGH), (HIGH, HIGH)])
        self.assertEqual(curve(glass_of(1, [[0, 0, 1], [0, 0, 1]])), [(LOW, LOW), (HIGH, HIGH)])

    def test_signs_as_steep_make_one_step(self):
        self.assertEqual(curve(glass_of(6, [[1, 2, 3], [1, 2, 3]])), [(LOW, LOW), (HIGH, HIGH)])
        self.assertEqual(curve(glass_of(12, [[1, 9, 2], [4, 0, 8]])), [(LOW, LOW), ((1, 4), HIGH), (HIGH, HIGH)])
        # Those that go straight up, and those that go level.
        self.assertEqual(curve(glass_of(4, [[0, 1, 0, 3], [1, 0, 3, 0]])), curve(clear(2)))
        self.assertEqual(curve(glass_of(4, [[0, 1, 0, 1, 2], [1, 0, 1, 0, 2]])),
                         [(LOW, LOW), (LOW, (1, 2)), ((1, 2), HIGH), (HIGH, HIGH)])

    def test_small_ones_all(self):
        for group in GROUPS:
            for glass in small_glasses(*group):
                self.holds(glass)

    def test_any_sizes(self):
        rng = random.Random(400)
        for wide, again in itertools.product(range(1, 13), range(6)):
            self.holds(a_glass(rng, 2, wide))
            self.holds(loosened(rng, a_glass(rng, 2, rng.randint(1, wide)), wide))

    def test_in_another_order(self):
        rng = random.Random(401)
        for wide, again in itertools.product(range(1, 13), range(6)):
            glass = loosened(rng, a_glass(rng, 2, rng.randint(1, wide)), wide)
            self.assertEqual(curve(shuffled(rng, glass)), curve(glass))

    def test_split_and_of_the_least_form(self):
        rng = random.Random(402)
        for wide in range(1, 13):
            glass = a_glass(rng, 2, wide)
            self.assertEqual(curve(loosened(rng, glass, 12)), curve(glass))
            self.assertEqual(curve(least(glass)[0]), curve(glass))
            self.assertEqual(len(curve(glass)), signs(least(glass)[0]) + 1)

    def test_nearly_as_steep(self):
        # Their steepness is 1 but for some 10 ** -11, and then some 10 ** -119.
        for bottom in (BIG, LONG):
            glass = glass_of(bottom, [[bottom // 2, bottom - bottom // 2], [bottom - bottom // 2, bottom // 2]])
            self.assertEqual(len(self.holds(glass)), 3)
        for many in (BIG // 3, LONG // 3):
            glass = glass_of(3 * many, [[many, many - 1, many + 1], [many + 1, many, many - 1]])
            told = self.holds(glass)
            self.assertEqual([point[0] for point in told],
                             [LOW, share(many - 1, 3 * many), share(2 * many - 1, 3 * many), HIGH])

    def test_nearly_as_steep_of_many_signs(self):
        rng = random.Random(403)
        for bottom, wide, again in itertools.product((BIG, LONG, LONG ** 5), range(2, 13), range(3)):
            glass = nearly_as_steep(rng, bottom, wide)
            self.assertEqual(self.holds(glass), curve(shuffled(rng, glass)))

    def test_long_numbers(self):
        rng = random.Random(404)
        for wide in range(1, 13):
            for bottom in (LONG, LONG ** 3):
                self.holds(glass_of(bottom, [row_of(rng, bottom, wide) for stand in range(2)]))

    def test_other_stands(self):
        rng = random.Random(405)
        for glass in WIDER + [a_glass(rng, many, wide) for many in (3, 4) for wide in range(1, 13)]:
            self.refused(NoFit, curve, glass)

    def test_no_point_of_any_signs_lies_above(self):
        rng = random.Random(406)
        for wide, again in itertools.product(range(1, 7), range(4)):
            glass = a_glass(rng, 2, wide)
            rows = fractions_of(glass)
            for some in itertools.product((0, 1), repeat=wide):
                x, y = [sum(number for number, seen in zip(row, some) if seen) for row in rows]
                self.assertLessEqual(y, Fraction(*height(glass, share_of(x))))


class TestHeight(CurveCase):
    def at(self, glass, x):
        before = copy.deepcopy((glass, x))
        told = height(glass, x)
        self.assertEqual((glass, x), before)
        self.is_share(told)
        self.assertEqual(Fraction(*told), wanted_height(wanted_curve(glass), Fraction(*x)))
        return told

    def test_written_out(self):
        for x, wanted in [(LOW, (2, 3)), ((1, 12), (13, 18)), ((1, 4), (5, 6)), ((1, 2), HIGH), ((3, 4), HIGH),
                          (HIGH, HIGH)]:
            self.assertEqual(self.at(EYE, x), wanted)
        for x in (LOW, (1, 3), (2, 3), HIGH):
            self.assertEqual(self.at(blind(2), x), x)
            self.assertEqual(self.at(clear(2), x), HIGH)

    def test_straight_up(self):
        self.assertEqual(self.at(glass_of(4, [[0, 4], [1, 3]]), LOW), (1, 4))
        self.assertEqual(self.at(glass_of(4, [[0, 0, 4], [1, 1, 2]]), LOW), (1, 2))
        self.assertEqual(self.at(glass_of(4, [[1, 3], [1, 3]]), LOW), LOW)
        self.assertEqual(self.at(glass_of(4, [[1, 3], [4, 0]]), LOW), LOW)

    def test_level_at_the_end(self):
        glass = glass_of(4, [[1, 3], [4, 0]])
        for x, wanted in [((1, 8), (1, 2)), ((1, 4), HIGH), ((1, 2), HIGH), (HIGH, HIGH)]:
            self.assertEqual(self.at(glass, x), wanted)

    def test_small_ones_all(self):
        for group in GROUPS:
            for glass in small_glasses(*group):
                for top in range(7):
                    self.at(glass, share(top, 6))

    def test_at_each_corner_and_between(self):
        rng = random.Random(410)
        for wide, again in itertools.product(range(1, 13), range(3)):
            glass = a_glass(rng, 2, wide)
            corners = curve(glass)
            self.at(glass, LOW)
            self.assertEqual(self.at(glass, HIGH), HIGH)
            for x, y in corners[2:]:
                self.assertEqual(self.at(glass, x), y)
            for (left, low), (right, high) in zip(corners, corners[1:]):
                middle = (Fraction(*left) + Fraction(*right)) / 2
                self.at(glass, share_of(middle))
                self.at(glass, share_of(Fraction(*left) + (middle - Fraction(*left)) / LONG))

    def test_long_numbers(self):
        rng = random.Random(411)
        for wide in (1, 2, 5, 12):
            glass = glass_of(LONG, [row_of(rng, LONG, wide) for stand in range(2)])
            for x in ((1, LONG), (LONG - 1, LONG), share(LONG // 3, LONG), LOW, HIGH):
                self.at(glass, x)

    def test_no_share_from_0_to_1(self):
        for x in OUTSIDE:
            for glass in (EYE, clear(2), blind(2)):
                self.refused(NoShare, height, glass, x)

    def test_what_is_no_share(self):
        for x in no_shares():
            self.refused(NoShare, height, EYE, x)

    def test_other_stands_go_ahead(self):
        for glass in WIDER:
            for x in [(1, 2), LOW, HIGH] + OUTSIDE + no_shares():
                self.refused(NoFit, height, glass, x)


class TestHeld(CurveCase):
    def reckoned(self, one, other):
        """Asks, and reckons out what is told."""
        before = copy.deepcopy((one, other))
        told = held(one, other)
        self.assertEqual((one, other), before)
        mine = wanted_curve(one)
        above = [corner for corner in wanted_curve(other) if corner[1] > wanted_height(mine, corner[0])]
        if not above:
            self.assertIs(told, None)
            return False
        self.assertIs(type(told), tuple)
        self.assertEqual(len(told), 2)
        corner, payoffs = told
        self.assertEqual(corner, (share_of(above[0][0]), share_of(above[0][1])))
        self.is_share(corner[0])
        self.is_share(corner[1])
        self.assertIn(corner, curve(other))
        self.gains_more(one, other, payoffs)
        return True

    def gains_more(self, one, other, payoffs):
        self.assertIs(type(payoffs), tuple)
        self.assertEqual([len(row) for row in payoffs], [2, 2])
        for row in payoffs:
            self.assertIs(type(row), tuple)
            self.assertEqual([type(number) for number in row], [int, int])
        self.assertGreater(most_gained(other, payoffs), most_gained(one, payoffs))
        self.assertGreater(Fraction(*best(other, payoffs)[0]), Fraction(*best(one, payoffs)[0]))

    def test_written_out(self):
        self.assertIs(held(clear(2), EYE), None)
        self.assertIs(held(EYE, blind(2)), None)
        self.assertEqual(held(EYE, clear(2))[0], (LOW, HIGH))
        self.assertEqual(held(blind(2), EYE)[0], (LOW, (2, 3)))
        # The second of its corners is the first that lies above.
        self.assertEqual(held(glass_of(4, [[1, 3], [2, 2]]), glass_of(8, [[1, 3, 4], [2, 5, 1]]))[0],
                         ((1, 2), (7, 8)))

    def test_a_corner_that_only_touches(self):
        one = glass_of(4, [[1, 3], [3, 1]])
        for other in (glass_of(8, [[1, 7], [3, 5]]), glass_of(4, [[2, 2], [3, 1]]), joined(EYE, 0, 1), one):
            self.reckoned(one, other)
        self.assertIs(held(one, glass_of(8, [[1, 7], [3, 5]])), None)
        # Just above, by one of many, and just below.
        one = glass_of(BIG, [[0, BIG], [3, BIG - 3]])
        self.assertEqual(held(one, glass_of(BIG, [[0, BIG], [4, BIG - 4]]))[0], (LOW, share(4, BIG)))
        self.assertIs(held(one, glass_of(BIG, [[0, BIG], [2, BIG - 2]])), None)
        self.assertIs(held(one, one), None)

    def test_against_itself_and_its_like(self):
        rng = random.Random(420)
        for wide in range(1, 13):
            glass = a_glass(rng, 2, wide)
            other = loosened(rng, glass, 12)
            for pair in ((glass, glass), (glass, other), (other, glass), (glass, least(glass)[0])):
                self.assertIs(held(*pair), None)

    def test_small_ones_all(self):
        glasses = sorted({glass for group in [(2, 1, 1), (2, 2, 3), (2, 3, 2)] for glass in small_glasses(*group)})
        told = []
        for one, other in itertools.product(glasses, repeat=2):
            told.append(self.reckoned(one, other))
            self.assertIs(told[-1], compared(one, other)[0] == "decision")
        self.assertGreater(told.count(True), len(glasses))
        self.assertGreater(told.count(False), len(glasses))

    def test_just_where_the_one_dulls_into_the_other(self):
        rng = random.Random(421)
        told = []
        for first, second, again in itertools.product((1, 2, 3, 4), (1, 2, 3, 4), range(8)):
            one = a_glass(rng, 2, first, 999)
            for other in (a_glass(rng, 2, second), dulled(one, a_dulling(rng, first, second, 999)),
                          nearly_as_steep(rng, BIG, second)):
                for pair in ((one, other), (other, one)):
                    told.append(self.reckoned(*pair))
                    self.assertIs(told[-1], compared(*pair)[0] == "decision")
        self.assertGreater(told.count(True), 50)
        self.assertGreater(told.count(False), 50)

    def test_of_up_to_twelve_signs(self):
        rng = random.Random(422)
        told = []
        for first, second in itertools.product(range(1, 13), repeat=2):
            one, other = a_glass(rng, 2, first), a_glass(rng, 2, second)
            told.append(self.reckoned(one, other))
            told.append(self.reckoned(other, one))
            # What the one dulls into never lies above it.
            self.assertIs(held(one, dulled(one, a_dulling(rng, first, second))), None)
        self.assertEqual(set(told), {True, False})

    def test_of_many_signs_against_few(self):
        # One of two signs against what it is dulled into, its signs split: over four signs nothing is compared.
        rng = random.Random(423)
        for wide in range(5, 13):
            one = a_glass(rng, 2, 4)
            other = dulled(one, a_dulling(rng, 4, wide))
            self.assertIs(held(one, other), None)
            self.reckoned(other, one)

    def test_curves_that_cross(self):
        one, other = glass_of(4, [[0, 4], [2, 2]]), glass_of(4, [[2, 2], [4, 0]])
        self.assertEqual(held(one, other)[0], ((1, 2), HIGH))
        self.assertEqual(held(other, one)[0], (LOW, (1, 2)))
        self.reckoned(one, other)
        self.reckoned(other, one)

    def test_beside_mixed_and_joined(self):
        rng = random.Random(424)
        for first, second in [(1, 12), (2, 6), (3, 4), (4, 3), (6, 2), (12, 1), (2, 2), (3, 3)]:
            one, other = a_glass(rng, 2, first), a_glass(rng, 2, second)
            both = beside(one, other)
            self.assertIs(held(both, one), None)
            self.assertIs(held(both, other), None)
            for i, j in itertools.combinations(range(signs(both)), 2):
                self.assertIs(held(both, joined(both, i, j)), None)
        for wide in range(1, 7):
            one, other = a_glass(rng, 2, wide), a_glass(rng, 2, wide)
            self.assertIs(held(mixed((1, 2), one, other), blind(2)), None)
            self.assertIs(held(mixed((1, 2), one, dulled(one, a_dulling(rng, wide, wide))),
                               dulled(one, a_dulling(rng, wide, 1))), None)

    def test_long_numbers(self):
        rng = random.Random(425)
        told = []
        for wide, again in itertools.product((2, 3, 7, 12), range(4)):
            one, other = [glass_of(LONG, [row_of(rng, LONG, wide) for stand in range(2)]) for both in range(2)]
            told.append(self.reckoned(one, other))
            near = nearly_as_steep(rng, LONG, wide)
            told.append(self.reckoned(near, nearly_as_steep(rng, LONG, wide)))
            told.append(self.reckoned(one, near))
            told.append(self.reckoned(near, one))
        self.assertEqual(set(told), {True, False})

    def test_payoffs_are_no_longer_than_the_glass(self):
        # So payoffs that are told of bottoms of six figures may be handed in, and written and read.
        rng = random.Random(426)
        for wide, again in itertools.product((1, 2, 5, 12), range(20)):
            told = held(a_glass(rng, 2, wide), a_glass(rng, 2, wide))
            for row in told[1] if told else ():
                self.assertLessEqual(max(abs(number) for number in row), BIG)

    def test_other_stands(self):
        for glass in WIDER:
            for fit in (EYE, clear(2), blind(2)):
                self.refused(NoFit, held, fit, glass)
                self.refused(NoFit, held, glass, fit)
            self.refused(NoFit, held, glass, glass)


class TestNothingChanged(CurveCase):
    def test_asked_again_and_in_another_order(self):
        rng = random.Random(430)
        pairs = [(a_glass(rng, 2, 5), a_glass(rng, 2, 5)) for again in range(10)]
        told = [(curve(pair[0]), height(pair[0], (1, 3)), held(*pair)) for pair in pairs]
        again = [(curve(pair[0]), height(pair[0], (1, 3)), held(*pair)) for pair in reversed(pairs)]
        self.assertEqual(told, again[::-1])

    def test_what_was_told_is_the_askers_own(self):
        told = curve(EYE)
        wanted = list(told)
        told.append(None)
        told[0] = told[1]
        self.assertEqual(curve(EYE), wanted)
        self.assertEqual(height(EYE, LOW), (2, 3))
        self.assertEqual(held(blind(2), EYE)[0], (LOW, (2, 3)))


if __name__ == "__main__":
    unittest.main()
