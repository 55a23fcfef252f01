import copy
import itertools
import math
import random
import unittest
from fractions import Fraction

from dullglass.beliefs import beliefs, glass_by
from dullglass.errors import NoBeliefs, NoFit
from dullglass.glasses import blind, clear, glass_of, is_glass, share_at, signs, stands
from dullglass.least import least
from dullglass.shares import share

from helpers import BIG, a_glass, fractions_of, loosened, row_of, small_glasses, table_of
from test_glasses import TableCase
from test_shares import Odd, strange

LONG = 10 ** 60 - 1
EYE = glass_of(6, [[3, 3, 0], [0, 2, 4]])
WEIGHTS = [(1, 1), (1, 3), (1000, 1), (1, 1000), (999, 1000), (1, 1, 1), (5, 1, 2), (1000, 1, 1000), (997, 991, 983),
           (1, 1, 1, 1), (1, 2, 3, 4), (1000, 1, 1, 1000), (997, 991, 983, 977)]
# Wrong in the place of a weight, of whatever kind.
NO_WEIGHTS = [0, -1, 1001, -1000, 1000000, LONG, -LONG, True, False, None, "1", 1.0, (1,), [1], share(1, 2), Odd()]


def share_of(number):
    return (number.numerator, number.denominator)


def rows_of(parts):
    """Rows as the program has them, of fractions (share, belief)."""
    return [(share_of(part), tuple(share_of(number) for number in belief)) for part, belief in parts]


def fractions_by(rows):
    return [(Fraction(*part), [Fraction(*number) for number in belief]) for part, belief in rows]


def wanted_beliefs(glass, weights):
    prior = [Fraction(weight, sum(weights)) for weight in weights]
    seen = {}
    for column in zip(*fractions_of(glass)):
        both = [a * b for a, b in zip(prior, column)]
        if sum(both) > 0:
            belief = tuple(number / sum(both) for number in both)
            seen[belief] = seen.get(belief, 0) + sum(both)
    return rows_of([(seen[belief], belief) for belief in sorted(seen)])


def wanted_glass(weights, rows):
    shown = [[part * belief[stand] * sum(weights) / weight for part, belief in fractions_by(rows)]
             for stand, weight in enumerate(weights)]
    return table_of(shown)


def some_weights(rng, many):
    return tuple(rng.choice([1, 2, 3, 1000, rng.randint(1, 1000)]) for stand in range(many))


class BeliefCase(TableCase):
    def is_a_share(self, told):
        self.assertIs(type(told), tuple)
        self.assertEqual([type(number) for number in told], [int, int])
        self.assertGreaterEqual(told[1], 1)
        self.assertEqual(math.gcd(*told), 1)

    def are_beliefs(self, told, weights):
        """A list of beliefs, unlike and sorted, that has the weights as its mean."""
        self.assertIs(type(told), list)
        for row in told:
            self.assertIs(type(row), tuple)
            self.assertEqual(len(row), 2)
            self.assertIs(type(row[1]), tuple)
            self.assertEqual(len(row[1]), len(weights))
            for one in [row[0]] + list(row[1]):
                self.is_a_share(one)
        parts = fractions_by(told)
        self.assertEqual(sum(part for part, belief in parts), 1)
        for part, belief in parts:
            self.assertGreater(part, 0)
            self.assertGreaterEqual(min(belief), 0)
            self.assertEqual(sum(belief), 1)
        for stand, weight in enumerate(weights):
            self.assertEqual(sum(part * belief[stand] for part, belief in parts), Fraction(weight, sum(weights)))
        order = [belief for part, belief in parts]
        self.assertTrue(all(one < other for one, other in zip(order, order[1:])))

    def holds(self, glass, weights):
        before = copy.deepcopy((glass, weights))
        told = beliefs(glass, weights)
        self.assertEqual((glass, weights), before)
        self.are_beliefs(told, weights)
        self.assertEqual(told, wanted_beliefs(glass, weights))
        return told

    def made(self, weights, rows):
        before = copy.deepcopy((weights, rows))
        told = glass_by(weights, rows)
        self.assertEqual((weights, rows), before)
        self.is_lowest(told)
        self.assertIs(is_glass(told), True)
        self.assertEqual((stands(told), signs(told)), (len(weights), len(rows)))
        self.assertEqual(told, wanted_glass(weights, rows))
        self.shows(told, weights, rows)
        return told

    def shows(self, glass, weights, rows):
        """Sign by sign, just so likely and with just this belief behind it."""
        for sign, (part, belief) in enumerate(fractions_by(rows)):
            both = [Fraction(*share_at(glass, stand, sign)) * Fraction(weight, sum(weights))
                    for stand, weight in enumerate(weights)]
            self.assertEqual(sum(both), part)
            self.assertEqual([number / part for number in both], belief)


class TestBeliefs(BeliefCase):
    def test_written_out(self):
        self.assertEqual(beliefs(EYE, (1, 3)), [
            ((1, 2), ((0, 1), (1, 1))), ((3, 8), ((1, 3), (2, 3))), ((1, 8), ((1, 1), (0, 1)))])
        self.assertEqual(beliefs(EYE, (1, 1)), [
            ((1, 3), ((0, 1), (1, 1))), ((5, 12), ((3, 5), (2, 5))), ((1, 4), ((1, 1), (0, 1)))])
        self.assertEqual(beliefs(blind(3), (1, 2, 3)), [((1, 1), ((1, 6), (1, 3), (1, 2)))])
        self.assertEqual(beliefs(clear(3), (1, 2, 3)), [
            ((1, 2), ((0, 1), (0, 1), (1, 1))), ((1, 3), ((0, 1), (1, 1), (0, 1))),
            ((1, 6), ((1, 1), (0, 1), (0, 1)))])
        self.assertEqual(beliefs(blind(2), (1000, 1000)), [((1, 1), ((1, 2), (1, 2)))])

    def test_alike_beliefs_once(self):
        self.assertEqual(beliefs(glass_of(6, [[1, 2, 3], [1, 2, 3]]), (3, 1)), [((1, 1), ((3, 4), (1, 4)))])
        self.assertEqual(beliefs(glass_of(4, [[1, 3, 0], [1, 2, 1]]), (1, 1)), [
            ((1, 8), ((0, 1), (1, 1))), ((1, 4), ((1, 2), (1, 2))), ((5, 8), ((3, 5), (2, 5)))])
        self.assertEqual(beliefs(glass_of(4, [[1, 0, 3, 0], [0, 1, 0, 3]]), (1, 2)), [
            ((2, 3), ((0, 1), (1, 1))), ((1, 3), ((1, 1), (0, 1)))])

    def test_signs_never_seen(self):
        self.assertEqual(beliefs(glass_of(1, [[0, 1, 0], [0, 1, 0]]), (1, 1)), [((1, 1), ((1, 2), (1, 2)))])
        self.assertEqual(beliefs(glass_of(2, [[0, 2, 0, 0], [0, 1, 0, 1]]), (1, 1)), [
            ((1, 4), ((0, 1), (1, 1))), ((3, 4), ((2, 3), (1, 3)))])

    def test_sorted_by_the_numbers_that_the_shares_stand_for(self):
        # By tops and bottoms 1/2 would be ahead of 1/3 and of 2/5.
        glass = glass_of(30, [[5, 12, 5, 8], [10, 3, 5, 12]])
        told = self.holds(glass, (1, 1))
        self.assertEqual([belief[0] for part, belief in told], [(1, 3), (2, 5), (1, 2), (4, 5)])
        told = self.holds(glass_of(24, [[3, 3, 2, 16], [3, 9, 12, 0], [6, 0, 0, 18]]), (1, 1, 1))
        self.assertEqual([belief for part, belief in told], [
            ((1, 7), (6, 7), (0, 1)), ((1, 4), (1, 4), (1, 2)), ((1, 4), (3, 4), (0, 1)), ((8, 17), (0, 1), (9, 17))])

    def test_small_ones_all(self):
        for group in ((2, 1, 1), (2, 2, 3), (2, 3, 2), (3, 2, 2), (3, 3, 1), (4, 2, 1)):
            for glass, weights in itertools.product(small_glasses(*group), WEIGHTS):
                if len(weights) == stands(glass):
                    self.holds(glass, weights)

    def test_any_sizes(self):
        rng = random.Random(400)
        for many, wide, again in itertools.product((2, 3, 4), range(1, 13), range(3)):
            glass = a_glass(rng, many, wide)
            self.holds(glass, some_weights(rng, many))
            self.holds(loosened(rng, glass, 12), some_weights(rng, many))

    def test_beliefs_that_nearly_are_the_same(self):
        for bottom in (BIG, BIG - 1):
            half = bottom // 2
            for one, other in itertools.product((half - 1, half, half + 1), repeat=2):
                glass = glass_of(bottom, [[one, bottom - one], [other, bottom - other]])
                for weights in ((1, 1), (1000, 999), (999, 1000)):
                    told = self.holds(glass, weights)
                    self.assertEqual(len(told), 1 if one == other else 2)

    def test_no_weights(self):
        for many in (2, 3, 4):
            glass = clear(many)
            for long in (0, 1, 2, 3, 4, 5, 6, 12, 400):
                if long != many:
                    self.refused(NoFit, beliefs, glass, (1,) * long)
            for wrong, place in itertools.product(NO_WEIGHTS, range(many)):
                weights = [1] * many
                weights[place] = wrong
                self.refused(NoFit, beliefs, glass, tuple(weights))
            for least_one, most in ((1, 1000), (1000, 1)):
                self.holds(glass, (least_one,) * (many - 1) + (most,))

    def test_weights_of_whatever_kind(self):
        for weights in strange() + [[1, 1], "11", {0: 1, 1: 1}, 11, range(1, 3), None]:
            if type(weights) is not tuple or weights != (1, 2):
                self.refused(NoFit, beliefs, clear(2), weights)


class TestGlassBy(BeliefCase):
    def test_written_out(self):
        rows = [((1, 8), ((1, 1), (0, 1))), ((3, 8), ((1, 3), (2, 3))), ((1, 2), ((0, 1), (1, 1)))]
        self.assertEqual(glass_by((1, 3), rows), EYE)
        self.assertEqual(glass_by((1, 3), rows[::-1]), (6, ((0, 3, 3), (4, 2, 0))))
        self.assertEqual(glass_by((2, 6), rows), EYE)
        self.assertEqual(glass_by((1, 2, 3), [((1, 1), ((1, 6), (1, 3), (1, 2)))]), blind(3))
        self.assertEqual(glass_by((5, 5), [((1, 2), ((1, 1), (0, 1))), ((1, 2), ((0, 1), (1, 1)))]), clear(2))

    def test_beliefs_there_and_back(self):
        rng = random.Random(410)
        for many, wide, again in itertools.product((2, 3, 4), range(1, 13), range(3)):
            glass, weights = a_glass(rng, many, wide, 999), some_weights(rng, many)
            told = beliefs(glass, weights)
            made = self.made(weights, told)
            self.assertEqual(beliefs(made, weights), told)
            self.assertEqual(least(made)[0], least(glass)[0])
            rng.shuffle(told)
            self.assertEqual(beliefs(self.made(weights, told), weights),
                             sorted(told, key=lambda row: [Fraction(*number) for number in row[1]]))

    def test_one_belief_more_than_once(self):
        rng = random.Random(411)
        half = ((1, 2), (1, 2))
        self.assertEqual(self.made((1, 1), [((1, 3), half), ((2, 3), half)]), (3, ((1, 2), (1, 2))))
        self.assertEqual(self.made((7, 7), [((1, 12), half)] * 12), (12, ((1,) * 12, (1,) * 12)))
        for many, again in itertools.product((2, 3, 4), range(10)):
            weights = some_weights(rng, many)
            told = beliefs(a_glass(rng, many, 4, 999), weights)
            split = [(share_of(Fraction(*part) * third), belief) for part, belief in told
                     for third in (Fraction(1, 3), Fraction(2, 3))]
            rng.shuffle(split)
            self.assertEqual(beliefs(self.made(weights, split), weights), told)

    def test_in_their_order(self):
        rows = beliefs(glass_of(12, [[1, 2, 3, 6], [6, 1, 2, 3], [3, 6, 1, 2]]), (1, 2, 3))
        for some in itertools.permutations(rows):
            self.made((1, 2, 3), list(some))

    def test_made_of_any_beliefs_with_that_mean(self):
        rng = random.Random(412)
        for many, wide, again in itertools.product((2, 3, 4), (1, 2, 5, 12), range(4)):
            # The weights' own parts, shared out over the signs: what each sign has of each stand.
            weights = some_weights(rng, many)
            lots = [row_of(rng, 60, wide) for stand in range(many)]
            both = [[Fraction(weight * number, sum(weights) * 60) for number in row]
                    for weight, row in zip(weights, lots)]
            columns = [column for column in zip(*both) if sum(column) > 0]
            rows = rows_of([(sum(column), [number / sum(column) for number in column]) for column in columns])
            self.assertEqual(self.made(weights, rows), table_of([[column[stand] * sum(weights) / weights[stand]
                                                                  for column in columns] for stand in range(many)]))

    def test_bottoms_of_six_figures(self):
        rows = rows_of([(Fraction(1, 2), [Fraction(1, BIG), Fraction(BIG - 1, BIG)]),
                        (Fraction(1, 2), [Fraction(BIG - 1, BIG), Fraction(1, BIG)])])
        self.assertEqual(self.made((1, 1), rows), (BIG, ((1, BIG - 1), (BIG - 1, 1))))
        rng = random.Random(413)
        for many, again in itertools.product((2, 3, 4), range(10)):
            # Six pairs, each with the weights as its mean: as far above it as below.
            weights, rows = tuple(rng.randint(3, 9) for stand in range(many)), []
            for pair in range(6):
                off = Fraction(rng.randint(1, 999), rng.randint(10000, 99999) // sum(weights))
                off = min(off, Fraction(1, sum(weights)))
                prior = [Fraction(weight, sum(weights)) for weight in weights]
                rows += [(Fraction(1, 12), [prior[0] + sign * off, prior[1] - sign * off] + prior[2:])
                         for sign in (1, -1)]
            self.made(weights, rows_of(rows))


class TestNoBeliefs(BeliefCase):
    WEIGHTS = (1, 3)
    ROWS = [((1, 8), ((1, 1), (0, 1))), ((3, 8), ((1, 3), (2, 3))), ((1, 2), ((0, 1), (1, 1)))]

    def none(self, rows, weights=None):
        before = copy.deepcopy(rows)
        self.refused(NoBeliefs, glass_by, weights or self.WEIGHTS, rows)
        self.assertEqual(rows, before)

    def with_row(self, place, row):
        return self.ROWS[:place] + [row] + self.ROWS[place + 1:]

    def test_no_rows_or_more_than_twelve(self):
        self.none([])
        prior = ((1, 4), (3, 4))
        for many in list(range(1, 16)) + [100, 400]:
            rows = [((1, many), prior)] * many
            if many <= 12:
                self.assertEqual(self.made(self.WEIGHTS, rows), glass_of(many, [[1] * many] * 2))
            else:
                self.none(rows)

    def test_a_share_that_is_not_above_nought(self):
        prior = ((1, 4), (3, 4))
        # All else about them is as it is to be.
        self.none(self.ROWS + [((0, 1), prior)])
        self.none([((0, 1), prior)] + self.ROWS)
        self.none([((0, 1), prior), ((1, 1), prior)])
        self.none([((-1, 2), prior), ((3, 2), prior)])
        self.none([((2, 1), prior), ((-1, 1), prior)])
        self.none(self.ROWS + [((1, 7), prior), ((-1, 7), prior)])

    def test_a_beliefs_share_below_nought(self):
        self.none([((1, 2), ((-1, 4), (5, 4))), ((1, 2), ((3, 4), (1, 4)))])
        self.none([((1, 2), ((3, 4), (1, 4))), ((1, 2), ((-1, 4), (5, 4)))])
        self.none([((1, 2), ((5, 4), (-1, 4))), ((1, 2), ((-3, 4), (7, 4)))])
        low = ((-1, BIG), (1, 3), (share(2 * BIG // 3 + 1, BIG)))
        rest = ((share(2 * BIG // 3 + 1, BIG)), (1, 3), (-1, BIG))
        self.none([((1, 2), low), ((1, 2), rest)], (1, 1, 1))

    def test_a_belief_that_does_not_come_to_one(self):
        for place, row in enumerate(self.ROWS):
            part, belief = row
            for more in (Fraction(1, BIG), Fraction(-1, 4), Fraction(1)):
                for k in (0, 1):
                    wrong = [Fraction(*number) for number in belief]
                    wrong[k] += more
                    self.none(self.with_row(place, (part, tuple(share_of(number) for number in wrong))))
        # The mean is the weights' own, but no belief comes to 1.
        self.none([((1, 2), ((0, 1), (3, 4))), ((1, 2), ((1, 2), (3, 4)))])
        self.none([((1, 2), ((1, 2), (3, 2)))])
        self.none([((2, 1), ((1, 8), (3, 8)))])
        self.none([((1, 1), ((0, 1), (0, 1)))])

    def test_not_as_many_as_there_are_stands(self):
        for long in (0, 1, 3, 4, 5, 12):
            belief = ((1, 1),) + ((0, 1),) * (long - 1) if long else ()
            self.none([((1, 1), belief)])
            for place in range(3):
                self.none(self.with_row(place, (self.ROWS[place][0], belief)))
        self.none([((1, 1), ((1, 4), (3, 4), (0, 1)))])
        self.none([((1, 1), ((1, 2), (1, 2)))], (1, 1, 1))
        self.none([((1, 1), ((1, 3), (1, 3), (1, 3)))], (1, 1, 1, 1))
        self.none([((1, 1), ((1, 4),) * 4)], (1, 1, 1))

    def test_another_mean(self):
        self.none([((1, 1), ((1, 2), (1, 2)))])
        self.none([((1, 1), ((3, 4), (1, 4)))])
        self.none([((1, 1), ((1, 4), (3, 4)))], (1, 2))
        self.none([((1, 2), ((1, 4), (3, 4)))])
        self.none([((1, 1), ((1, 4), (3, 4)))] * 2)
        self.none([((BIG - 1, BIG), ((1, 4), (3, 4)))])
        self.none([((BIG, BIG - 1), ((1, 4), (3, 4)))])
        self.none(self.ROWS[:2])
        self.none(self.ROWS[1:])
        self.none(self.ROWS, (3, 1))
        self.none(self.ROWS, (1, 4))
        self.none(self.ROWS, (334, 1000))
        # At one stand as it is to be, at the others not.
        self.none([((1, 1), ((1, 3), (1, 6), (1, 2)))], (2, 2, 2))
        self.none([((1, 1), ((1, 2), (1, 3), (1, 6)))], (2, 2, 2))
        self.none([((1, 1), ((1, 6), (1, 2), (1, 3)))], (2, 2, 2))

    def test_no_weights(self):
        for rows in (self.ROWS, [], [((0, 1), ((1, 1), (0, 1)))], [((1, 1), ())], [((1, 13), ((1, 2), (1, 2)))] * 13):
            for weights in [(), (1,), (1,) * 5, (1,) * 12, (1,) * 400, (0, 1), (1, 0), (-1, 1), (1001, 1), (1, 1001)]:
                self.refused(NoFit, glass_by, weights, rows)
            for weights in strange() + [[1, 3], "13", {0: 1, 1: 3}, 13, range(1, 3)]:
                if type(weights) is not tuple or weights != (1, 2):
                    self.refused(NoFit, glass_by, weights, rows)
            for many, wrong in itertools.product((2, 3, 4), NO_WEIGHTS):
                for place in range(many):
                    weights = [1] * many
                    weights[place] = wrong
                    self.refused(NoFit, glass_by, tuple(weights), rows)

    def test_one_weight_with_one_belief(self):
        self.refused(NoFit, glass_by, (1,), [((1, 1), ((1, 1),))])
        self.refused(NoFit, glass_by, (1,) * 5, [((1, 1), ((1, 5),) * 5)])
        self.assertEqual(self.made((1000, 1000, 1000, 1000), [((1, 1), ((1, 4),) * 4)]), blind(4))


class TestNothingChanged(BeliefCase):
    def test_what_was_told_is_the_askers_own(self):
        wanted = copy.deepcopy(beliefs(EYE, (1, 3)))
        told = beliefs(EYE, (1, 3))
        told[0] = "another"
        told.append("more")
        told.reverse()
        self.assertEqual(beliefs(EYE, (1, 3)), wanted)
        self.assertIsNot(beliefs(EYE, (1, 3)), beliefs(EYE, (1, 3)))

    def test_rows_changed_later(self):
        rows = beliefs(EYE, (1, 3))
        told = glass_by((1, 3), rows)
        wanted, before = copy.deepcopy(told), list(rows)
        rows.pop()
        rows[0] = ((1, 1), ((1, 1), (0, 1)))
        self.assertEqual(told, wanted)
        self.refused(NoBeliefs, glass_by, (1, 3), rows)
        self.assertEqual(glass_by((1, 3), before), wanted)


if __name__ == "__main__":
    unittest.main()
