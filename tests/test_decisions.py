import copy
import itertools
import math
import random
import unittest
from fractions import Fraction

from dullglass.decisions import best, gain
from dullglass.dulls import beside, dulled, joined, mixed
from dullglass.errors import NoFit
from dullglass.glasses import blind, clear, glass_of, signs, stands

from helpers import a_dulling, a_glass, fractions_of, small_glasses
from test_glasses import TableCase

MILLION = 1000000
LONG = 10 ** 60 - 1
EYE = glass_of(6, [[3, 3, 0], [0, 2, 4]])
BET = ((1, 0), (-1, 2))


def gained(glass, payoffs, plan):
    rows = fractions_of(glass)
    return sum(share * payoffs[stand][plan[sign]] for stand, row in enumerate(rows) for sign, share in enumerate(row))


def some_payoffs(rng, many, acts):
    most = rng.choice([1, 2, 5, MILLION])
    return tuple(tuple(rng.randint(-most, most) for act in range(acts)) for stand in range(many))


def number_of(told):
    return Fraction(told[0], told[1])


class DecisionCase(TableCase):
    def is_share(self, told, wanted):
        self.assertIs(type(told), tuple)
        self.assertEqual([type(number) for number in told], [int, int])
        self.assertGreaterEqual(told[1], 1)
        self.assertEqual(math.gcd(*told), 1)
        self.assertEqual(number_of(told), wanted)


class TestGain(DecisionCase):
    def test_written_out(self):
        self.assertEqual(gain(EYE, BET, (0, 0, 0)), (0, 1))
        self.assertEqual(gain(EYE, BET, (1, 1, 1)), (2, 1))
        self.assertEqual(gain(EYE, BET, (0, 1, 1)), (5, 2))
        self.assertEqual(gain(EYE, BET, (0, 0, 1)), (2, 1))
        self.assertEqual(gain(EYE, BET, (1, 1, 0)), (0, 1))
        self.assertEqual(gain(EYE, ((0, 0), (-1, -2)), (0, 0, 1)), (-5, 3))
        self.assertEqual(gain(blind(3), ((1,), (2,), (4,)), (0,)), (7, 1))
        self.assertEqual(gain(clear(2), ((3, 0), (0, 5)), (0, 1)), (8, 1))
        self.assertEqual(gain(clear(2), ((3, 0), (0, 5)), (1, 0)), (0, 1))

    def test_any_plan_by_fractions(self):
        rng = random.Random(70)
        for many, wide, acts in itertools.product((2, 3, 4), (1, 2, 5, 12), (1, 2, 7, 12)):
            glass, payoffs = a_glass(rng, many, wide), some_payoffs(rng, many, acts)
            for again in range(4):
                plan = tuple(rng.randrange(acts) for sign in range(wide))
                self.is_share(gain(glass, payoffs, plan), gained(glass, payoffs, plan))

    def test_lowest_terms(self):
        half = glass_of(2, [[1, 1], [1, 1]])
        self.assertEqual(gain(half, ((1, 0), (1, 0)), (0, 1)), (1, 1))
        self.assertEqual(gain(half, ((1, 0), (0, 0)), (0, 1)), (1, 2))
        self.assertEqual(gain(half, ((-1, 0), (0, 0)), (0, 1)), (-1, 2))
        self.assertEqual(gain(half, ((1, 0), (-1, 0)), (0, 1)), (0, 1))

    def test_great_payoffs(self):
        most = ((MILLION, -MILLION), (-MILLION, MILLION))
        self.assertEqual(gain(clear(2), most, (0, 1)), (2 * MILLION, 1))
        self.assertEqual(gain(clear(2), most, (1, 0)), (-2 * MILLION, 1))
        longer = ((LONG, -LONG), (-LONG, LONG ** 9))
        self.assertEqual(gain(EYE, longer, (0, 0, 1)), (2 * LONG ** 9 // 3 + LONG - LONG // 3, 1))

    def test_other_rows_than_stands(self):
        for many, rows, acts in itertools.product((2, 3, 4), (1, 2, 3, 4, 5, 6, 12), (1, 2, 12)):
            payoffs = tuple(tuple(range(acts)) for row in range(rows))
            if rows == many:
                self.is_share(gain(clear(many), payoffs, (0,) * many), 0)
            else:
                self.refused(NoFit, gain, clear(many), payoffs, (0,) * many)
                self.refused(NoFit, gain, clear(many), payoffs, (0,) * (many + 1))
                self.refused(NoFit, gain, clear(many), payoffs, (acts,) * many)

    def test_no_plan(self):
        for plan in ((), (0,), (0, 0), (0, 1), (0, 0, 0, 0), (1, 1, 1, 1), (0,) * 12, (0,) * 400):
            self.refused(NoFit, gain, EYE, BET, plan)
        for act in (2, -1, -2, 3, 12, LONG, -LONG, True, False, None, "0", (0,), 0.0):
            for plan in ((act, 0, 0), (0, act, 0), (0, 0, act), (act, act, act)):
                self.refused(NoFit, gain, EYE, BET, plan)
        for plan in ([0, 0, 0], "000", None, 0, {0: 0, 1: 0, 2: 0}):
            self.refused(NoFit, gain, EYE, BET, plan)

    def test_an_act_for_a_sign_that_is_never_seen_is_one_too(self):
        glass = glass_of(1, [[0, 1], [0, 1]])
        self.assertEqual(gain(glass, BET, (1, 0)), gain(glass, BET, (0, 0)))
        self.refused(NoFit, gain, glass, BET, (2, 0))


class TestBest(DecisionCase):
    def is_best(self, glass, payoffs, told):
        self.assertIs(type(told), tuple)
        self.assertEqual(len(told), 2)
        self.assertIs(type(told[1]), tuple)
        self.assertEqual({type(act) for act in told[1]}, {int})
        self.assertEqual(len(told[1]), signs(glass))
        self.is_share(told[0], gained(glass, payoffs, told[1]))
        self.assertEqual(gain(glass, payoffs, told[1]), told[0])

    def by_all_plans(self, glass, payoffs):
        acts = len(payoffs[0])
        # max tells the first one among equals, and the plans come in rising order.
        plans = list(itertools.product(range(acts), repeat=signs(glass)))
        first = max(plans, key=lambda plan: gained(glass, payoffs, plan))
        told = best(glass, payoffs)
        self.is_best(glass, payoffs, told)
        self.assertEqual(told[1], first)

    def test_written_out(self):
        self.assertEqual(best(EYE, BET), ((5, 2), (0, 1, 1)))
        self.assertEqual(best(clear(2), BET), ((3, 1), (0, 1)))
        self.assertEqual(best(blind(2), BET), ((2, 1), (1,)))
        self.assertEqual(best(clear(4), ((0, 7, 1), (2, 1, 2), (5, 5, 6), (-3, -1, -2))), ((14, 1), (1, 0, 2, 1)))
        self.assertEqual(best(EYE, ((-1,), (-2,))), ((-3, 1), (0, 0, 0)))

    def test_small_ones_all(self):
        for glass in small_glasses(2, 2, 2) + small_glasses(2, 2, 3) + small_glasses(2, 3, 2):
            for payoffs in itertools.product(itertools.product((-1, 0, 1), repeat=2), repeat=2):
                self.by_all_plans(glass, payoffs)

    def test_greater_ones(self):
        rng = random.Random(80)
        for many, wide, acts in itertools.product((2, 3, 4), (1, 2, 3, 4), (1, 2, 3, 4)):
            for again in range(3):
                self.by_all_plans(a_glass(rng, many, wide), some_payoffs(rng, many, acts))

    def test_the_greatest_ones(self):
        rng = random.Random(81)
        for many, acts in itertools.product((2, 3, 4), (1, 2, 11, 12)):
            glass, payoffs = a_glass(rng, many, 12), some_payoffs(rng, many, acts)
            told = best(glass, payoffs)
            self.is_best(glass, payoffs, told)
            for sign, act in itertools.product(range(12), range(acts)):
                plan = told[1][:sign] + (act,) + told[1][sign + 1:]
                less = number_of(told[0]) - gained(glass, payoffs, plan)
                self.assertTrue(less > 0 or (less == 0 and act >= told[1][sign]), (sign, act))

    def test_the_first_act_among_equals(self):
        self.assertEqual(best(clear(2), ((1, 1, 1), (0, 2, 2))), ((3, 1), (0, 1)))
        self.assertEqual(best(blind(2), ((0, 1, 2, 3), (3, 2, 1, 0))), ((3, 1), (0,)))
        self.assertEqual(best(EYE, ((5,) * 12, (5,) * 12)), ((10, 1), (0, 0, 0)))
        self.assertEqual(best(clear(3), ((0, 0),) * 3), ((0, 1), (0, 0, 0)))
        self.assertEqual(best(EYE, ((-1, -1), (-1, -1))), ((-2, 1), (0, 0, 0)))

    def test_signs_that_are_never_seen(self):
        glass = glass_of(2, [[0, 1, 0, 1], [0, 2, 0, 0]])
        self.assertEqual(best(glass, ((-5, 3, 1), (-5, 1, 4))), ((6, 1), (0, 2, 0, 1)))
        self.assertEqual(best(glass, ((-5, -3), (-5, -4))), ((-7, 1), (0, 1, 0, 1)))
        self.assertEqual(best(mixed((0, 1), clear(2), blind(2)), ((0, 1), (0, 1))), ((2, 1), (0, 0, 1)))

    def test_other_rows_than_stands(self):
        for many, rows, acts in itertools.product((2, 3, 4), (1, 2, 3, 4, 5, 6, 12), (1, 2, 12)):
            payoffs = tuple((1,) * acts for row in range(rows))
            if rows == many:
                self.assertEqual(best(clear(many), payoffs), ((many, 1), (0,) * many))
            else:
                self.refused(NoFit, best, clear(many), payoffs)

    def test_somewhat_more_than_is_handed_in(self):
        rng = random.Random(82)
        longer = tuple(tuple(rng.randint(-LONG, LONG) for act in range(13)) for stand in range(3))
        glass = a_glass(rng, 3, 3)
        self.by_all_plans(glass, longer)

    def test_payoffs_of_very_many_figures(self):
        huge = 10 ** 1000
        payoffs = ((huge, huge + 1, 0), (0, -1, huge))
        self.assertEqual(best(clear(2), payoffs), ((2 * huge + 1, 1), (1, 2)))


class TestNoBetter(DecisionCase):
    def both(self, seed):
        rng = random.Random(seed)
        for many, first, second, acts in itertools.product((2, 3, 4), (1, 2, 3), (2, 4), (1, 2, 5)):
            one, other = a_glass(rng, many, first), a_glass(rng, many, second)
            yield rng, one, other, some_payoffs(rng, many, acts)

    def most(self, glass, payoffs):
        return number_of(best(glass, payoffs)[0])

    def test_dulled_and_joined(self):
        for rng, one, other, payoffs in self.both(90):
            dulling = a_dulling(rng, signs(other), rng.randint(1, 12))
            self.assertLessEqual(self.most(dulled(other, dulling), payoffs), self.most(other, payoffs))
            self.assertLessEqual(self.most(joined(other, 0, signs(other) - 1), payoffs), self.most(other, payoffs))
            self.assertLessEqual(self.most(other, payoffs), self.most(clear(stands(other)), payoffs))
            self.assertLessEqual(self.most(blind(stands(other)), payoffs), self.most(other, payoffs))

    def test_beside_and_mixed(self):
        for rng, one, other, payoffs in self.both(91):
            both = self.most(beside(one, other), payoffs)
            self.assertGreaterEqual(both, max(self.most(one, payoffs), self.most(other, payoffs)))
            between = Fraction(1, 3) * self.most(one, payoffs) + Fraction(2, 3) * self.most(other, payoffs)
            self.assertEqual(self.most(mixed((1, 3), one, other), payoffs), between)


class TestNothingChanged(DecisionCase):
    def test_what_is_handed_in_and_asked_again(self):
        glass, payoffs, plan = EYE, ((1, 0, 4), (-1, 2, 0)), (2, 1, 1)
        before = copy.deepcopy((glass, payoffs, plan))
        told = (gain(glass, payoffs, plan), best(glass, payoffs))
        self.assertEqual((gain(glass, payoffs, plan), best(glass, payoffs)), told)
        self.assertEqual((glass, payoffs, plan), before)


if __name__ == "__main__":
    unittest.main()
