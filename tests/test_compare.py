import copy
import itertools
import random
import unittest
from fractions import Fraction

from dullglass.compare import alike, compared
from dullglass.decisions import best
from dullglass.dulls import beside, dulled, joined, kept
from dullglass.errors import NoFit, TooMany
from dullglass.glasses import blind, clear, dulling_of, glass_of, is_dulling, signs, stands

from helpers import (
    BIG, a_dulling, a_glass, fractions_of, loosened, most_gained, product, row_of, showing_itself, showing_one,
    small_glasses)
from test_glasses import TableCase

EYE = glass_of(6, [[3, 3, 0], [0, 2, 4]])
SIZES = list(itertools.product((2, 3, 4), (1, 2, 3, 4), (1, 2, 3, 4)))
# Two of them, multiplied, have at most six figures.
SHORT = 999


def blurred(bottom, wrong):
    """Two stands, told apart but for so many wrong out of the bottom."""
    return glass_of(bottom, [[bottom - wrong, wrong], [wrong, bottom - wrong]])


def nudged(rng, glass):
    """The same but for one in one row's numbers, which are kept 0 or more."""
    bottom, rows = glass
    rows = [list(row) for row in rows]
    row = rng.choice(rows)
    k = rng.choice([place for place, number in enumerate(row) if number > 0])
    row[k] -= 1
    row[rng.randrange(len(row))] += 1
    return glass_of(bottom, rows)


class CompareCase(TableCase):
    def holds(self, one, other):
        """Asks, and reckons out what is told: either answer shows by itself that the other one can't be."""
        before = copy.deepcopy((one, other))
        told = compared(one, other)
        self.assertEqual((one, other), before)
        self.assertIs(type(told), tuple)
        self.assertEqual(len(told), 2)
        self.assertIn(told[0], ("dulls", "decision"))
        if told[0] == "dulls":
            self.becomes(one, other, told[1])
        else:
            self.gains_more(one, other, told[1])
        return told[0]

    def becomes(self, one, other, dulling):
        self.is_lowest(dulling)
        self.assertIs(is_dulling(dulling), True)
        self.assertEqual((len(dulling[1]), signs(dulling)), (signs(one), signs(other)))
        self.assertEqual(product(fractions_of(one), fractions_of(dulling)), fractions_of(other))
        self.assertEqual(dulled(one, dulling), other)

    def gains_more(self, one, other, payoffs):
        self.assertIs(type(payoffs), tuple)
        self.assertEqual(len(payoffs), stands(one))
        for row in payoffs:
            self.assertIs(type(row), tuple)
            self.assertEqual(len(row), signs(other))
            self.assertEqual({type(number) for number in row}, {int})
        self.assertGreater(most_gained(other, payoffs), most_gained(one, payoffs))
        self.assertEqual(Fraction(*best(one, payoffs)[0]), most_gained(one, payoffs))
        self.assertEqual(Fraction(*best(other, payoffs)[0]), most_gained(other, payoffs))

    def dulls(self, one, other):
        self.assertEqual(self.holds(one, other), "dulls", (one, other))

    def decides(self, one, other):
        self.assertEqual(self.holds(one, other), "decision", (one, other))


class TestCompared(CompareCase):
    def test_where_there_is_one_dulling_only(self):
        self.assertEqual(compared(clear(2), EYE), ("dulls", EYE))
        self.assertEqual(compared(EYE, blind(2)), ("dulls", (1, ((1,), (1,), (1,)))))
        self.assertEqual(compared(clear(3), clear(3)), ("dulls", (1, ((1, 0, 0), (0, 1, 0), (0, 0, 1)))))
        self.assertEqual(compared(blind(2), glass_of(3, [[1, 2], [1, 2]])), ("dulls", (3, ((1, 2),))))
        self.assertEqual(compared(glass_of(4, [[3, 1], [1, 3]]), glass_of(8, [[5, 3], [3, 5]])),
                         ("dulls", (4, ((3, 1), (1, 3)))))
        told = compared(glass_of(3, [[1, 2, 0], [0, 0, 3]]), glass_of(6, [[1, 5], [6, 0]]))
        self.assertEqual(told[0], "dulls")
        self.assertEqual(dulled(glass_of(3, [[1, 2, 0], [0, 0, 3]]), told[1]), (6, ((1, 5), (6, 0))))

    def test_which_of_both(self):
        self.decides(EYE, clear(2))
        self.dulls(clear(2), EYE)
        self.decides(blind(2), EYE)
        self.dulls(EYE, glass_of(12, [[9, 3], [4, 8]]))
        self.decides(glass_of(12, [[9, 3], [4, 8]]), EYE)
        # Neither is as good as the other: each shows one of the stands for sure.
        left, right = glass_of(2, [[1, 1], [0, 2]]), glass_of(2, [[2, 0], [1, 1]])
        self.decides(left, right)
        self.decides(right, left)
        # Each tells two of three stands apart.
        for one, other in itertools.permutations([[0, 0, 1], [0, 1, 0], [1, 0, 0]], 2):
            self.decides(*[glass_of(1, [[1 - sign, sign] for sign in rows]) for rows in (one, other)])

    def test_just_at_the_edge(self):
        bottoms = (7, 12, 999, 99991, 999998, BIG)
        for first, second in itertools.product(bottoms, repeat=2):
            for wrong in {0, 1, 2, 3, first // 7, first // 3, first // 2}:
                near = second * wrong // first
                for other in range(max(0, near - 1), min(second // 2, near + 2) + 1):
                    good = Fraction(wrong, first) <= Fraction(other, second)
                    told = self.holds(blurred(first, wrong), blurred(second, other))
                    self.assertEqual(told, "dulls" if good else "decision")

    def test_small_ones_all(self):
        for groups in ([(2, 1, 1), (2, 2, 2), (2, 2, 3), (2, 3, 2)], [(3, 1, 1), (3, 2, 2)], [(4, 1, 1), (4, 2, 1)]):
            glasses = sorted({glass for group in groups for glass in small_glasses(*group)})
            kinds = {self.holds(one, other) for one, other in itertools.product(glasses, repeat=2)}
            self.assertEqual(kinds, {"dulls", "decision"})

    def test_any_sizes(self):
        rng = random.Random(200)
        kinds = []
        for (many, first, second), again in itertools.product(SIZES, range(12)):
            kinds.append(self.holds(a_glass(rng, many, first), a_glass(rng, many, second)))
        self.assertGreater(min(kinds.count("dulls"), kinds.count("decision")), 50)

    def test_the_one_dulled(self):
        rng = random.Random(201)
        for (many, first, second), again in itertools.product(SIZES, range(8)):
            one, dulling = a_glass(rng, many, first, SHORT), a_dulling(rng, first, second, SHORT)
            self.dulls(one, dulled(one, dulling))

    def test_the_one_dulled_but_for_one_number(self):
        rng = random.Random(202)
        kinds = []
        for (many, first, second), again in itertools.product(SIZES, range(6)):
            one, dulling = a_glass(rng, many, first, SHORT), a_dulling(rng, first, second, SHORT)
            kinds.append(self.holds(one, nudged(rng, dulled(one, dulling))))
        self.assertGreater(min(kinds.count("dulls"), kinds.count("decision")), 50)

    def test_bottoms_of_six_figures(self):
        rng = random.Random(203)
        for (many, first, second), again in itertools.product(SIZES, range(4)):
            rows = [row_of(rng, BIG, first) for stand in range(many)]
            others = [row_of(rng, BIG - again, second) for stand in range(many)]
            self.holds(glass_of(BIG, rows), glass_of(BIG - again, others))
            # Numbers near to one another, so that neither is plainly the better one.
            near = [[number + 1 if k == stand % first else number for k, number in enumerate([1000] * first)]
                    for stand in range(many)]
            self.holds(glass_of(sum(near[0]), near), glass_of(BIG, rows))
            self.holds(glass_of(BIG, rows), glass_of(sum(near[0]), near))

    def test_with_itself(self):
        rng = random.Random(204)
        for many, wide, again in itertools.product((2, 3, 4), (1, 2, 3, 4), range(6)):
            glass = a_glass(rng, many, wide)
            self.dulls(glass, glass)
            self.dulls(glass, copy.deepcopy(glass))

    def test_the_clear_and_the_blind(self):
        rng = random.Random(205)
        for many, wide, again in itertools.product((2, 3, 4), (1, 2, 3, 4), range(6)):
            glass = a_glass(rng, many, wide)
            self.assertEqual(compared(clear(many), glass), ("dulls", glass))
            self.assertEqual(compared(glass, blind(many)), ("dulls", showing_one(wide)))
            self.dulls(clear(many), glass)
            self.dulls(glass, blind(many))
            # Only where all stands show alike is the blind one as good.
            same = len(set(glass[1])) == 1
            self.assertEqual(self.holds(blind(many), glass), "dulls" if same else "decision")
            # Only where no sign is seen at two stands is it as good as the clear one.
            sure = all(sum(number > 0 for number in column) <= 1 for column in zip(*glass[1]))
            self.assertEqual(self.holds(glass, clear(many)), "dulls" if sure else "decision")

    def test_signs_that_are_never_seen(self):
        one, other = glass_of(2, [[0, 1, 1], [0, 2, 0]]), glass_of(2, [[1, 1, 0, 0], [2, 0, 0, 0]])
        self.dulls(one, other)
        self.dulls(other, one)
        self.decides(one, glass_of(2, [[0, 2, 0], [0, 0, 2]]))
        self.decides(glass_of(1, [[0, 1, 0, 0], [0, 1, 0, 0]]), clear(2))
        self.dulls(glass_of(1, [[0, 1, 0, 0], [0, 1, 0, 0]]), blind(2))

    def test_as_good_goes_on(self):
        for group in ((2, 2, 3), (2, 3, 2), (3, 2, 2)):
            glasses = sorted(set(small_glasses(*group)))
            good = {(one, other) for one, other in itertools.product(glasses, repeat=2)
                    if compared(one, other)[0] == "dulls"}
            for (one, middle), other in itertools.product(good, glasses):
                if (middle, other) in good:
                    self.assertIn((one, other), good)


class TestRefused(CompareCase):
    def test_unlike_stands(self):
        for (many, first, second), beyond in itertools.product(SIZES, (2, 3, 4)):
            if many != beyond:
                one, other = glass_of(1, [[1] + [0] * (first - 1)] * many), glass_of(second, [[1] * second] * beyond)
                self.refused(NoFit, compared, one, other)
                self.refused(NoFit, alike, one, other)

    def test_more_than_four_signs(self):
        for many, first, second in itertools.product((2, 3, 4), range(1, 13), range(1, 13)):
            one, other = glass_of(1, [[1] + [0] * (first - 1)] * many), glass_of(second, [[1] * second] * many)
            if first <= 4 and second <= 4:
                self.dulls(one, other)
                self.assertIs(alike(one, other), True)
                continue
            self.refused(TooMany, compared, one, other)
            self.refused(TooMany, alike, one, other)

    def test_unlike_stands_go_first(self):
        for many, beyond, first, second in itertools.product((2, 3, 4), (2, 3, 4), (4, 5, 12), (4, 5, 12)):
            if many != beyond:
                one, other = glass_of(first, [[1] * first] * many), glass_of(second, [[1] * second] * beyond)
                self.refused(NoFit, compared, one, other)
                self.refused(NoFit, alike, one, other)

    def test_whichever_would_be_told(self):
        five = glass_of(5, [[1] * 5, [5, 0, 0, 0, 0]])
        for other in (five, clear(2), blind(2), EYE):
            for ask in (compared, alike):
                self.refused(TooMany, ask, five, other)
                self.refused(TooMany, ask, other, five)


class TestAlike(CompareCase):
    def test_written_out(self):
        self.assertIs(alike(EYE, EYE), True)
        self.assertIs(alike(EYE, glass_of(6, [[0, 3, 3], [4, 0, 2]])), True)
        self.assertIs(alike(EYE, glass_of(12, [[6, 3, 0, 3], [0, 2, 8, 2]])), True)
        self.assertIs(alike(EYE, clear(2)), False)
        self.assertIs(alike(clear(2), EYE), False)
        self.assertIs(alike(EYE, blind(2)), False)
        self.assertIs(alike(blind(2), EYE), False)
        self.assertIs(alike(glass_of(2, [[1, 1], [0, 2]]), glass_of(2, [[2, 0], [1, 1]])), False)
        self.assertIs(alike(blind(4), glass_of(7, [[1, 0, 4, 2]] * 4)), True)
        self.assertIs(alike(clear(2), glass_of(3, [[1, 0, 2, 0], [0, 2, 0, 1]])), True)

    def test_just_where_each_dulls_into_the_other(self):
        for group in ((2, 2, 3), (2, 3, 2), (3, 2, 2)):
            glasses = sorted(set(small_glasses(*group)))
            told = []
            for one, other in itertools.product(glasses, repeat=2):
                wanted = compared(one, other)[0] == "dulls" and compared(other, one)[0] == "dulls"
                self.assertIs(alike(one, other), wanted)
                told.append(wanted)
            self.assertGreater(told.count(True), len(glasses))
            self.assertGreater(told.count(False), len(glasses))

    def test_split_and_shuffled(self):
        rng = random.Random(210)
        for many, wide, again in itertools.product((2, 3, 4), (1, 2, 3, 4), range(4)):
            glass = a_glass(rng, many, wide, SHORT)
            other = loosened(rng, glass, rng.randint(wide, 4))
            self.assertIs(alike(glass, other), True)
            self.assertIs(alike(other, glass), True)

    def test_nudged(self):
        rng = random.Random(211)
        kinds = []
        for many, wide, again in itertools.product((2, 3, 4), (2, 3, 4), range(6)):
            glass = a_glass(rng, many, wide)
            other = nudged(rng, glass)
            wanted = self.holds(glass, other) == self.holds(other, glass) == "dulls"
            self.assertIs(alike(glass, other), wanted)
            kinds.append(wanted)
        self.assertEqual(set(kinds), {True, False})


class TestNoBetter(CompareCase):
    """What the whole promises of one glass that is at least as good as another one."""

    def pairs(self, seed):
        rng = random.Random(seed)
        for (many, first, second), again in itertools.product(SIZES, range(3)):
            # Dulled twice by bottoms of at most 60, its bottom has no more than six figures.
            one = a_glass(rng, many, first, 200)
            yield rng, one, dulled(one, a_dulling(rng, first, second, 60))

    def test_dulled_once_more(self):
        for rng, one, other in self.pairs(220):
            self.dulls(one, other)
            for new in (1, 2, 3, 4):
                more = dulled(other, a_dulling(rng, signs(other), new, 60))
                self.dulls(other, more)
                self.dulls(one, more)

    def test_signs_joined(self):
        for rng, one, other in self.pairs(221):
            for i, j in itertools.combinations(range(signs(other)), 2):
                self.dulls(other, joined(other, i, j))
                self.dulls(one, joined(other, i, j))

    def test_stands_left_out(self):
        for rng, one, other in self.pairs(222):
            for long in range(2, stands(one) + 1):
                for some in itertools.combinations(range(stands(one)), long):
                    self.dulls(kept(one, list(some)), kept(other, list(some)))

    def test_beside_one_another(self):
        rng = random.Random(223)
        for many, again in itertools.product((2, 3, 4), range(5)):
            for first, second in [(1, 1), (1, 2), (1, 3), (1, 4), (2, 1), (3, 1), (4, 1), (2, 2)]:
                one, other = a_glass(rng, many, first, SHORT), a_glass(rng, many, second, SHORT)
                both = beside(one, other)
                self.dulls(both, one)
                self.dulls(both, other)

    def test_beside_one_another_with_more_signs(self):
        rng = random.Random(224)
        for many, (first, second) in itertools.product((2, 3, 4), [(2, 6), (3, 4), (4, 3), (12, 1), (1, 12), (5, 2)]):
            one, other = a_glass(rng, many, first), a_glass(rng, many, second)
            both = beside(one, other)
            first_alone = dulling_of(1, [row for row in showing_itself(first)[1] for again in range(second)])
            self.assertEqual(dulled(both, first_alone), one)
            self.assertEqual(dulled(both, dulling_of(1, list(showing_itself(second)[1]) * first)), other)


class TestNothingChanged(CompareCase):
    def test_asked_again_and_in_another_order(self):
        rng = random.Random(230)
        pairs = [(a_glass(rng, 3, 3), a_glass(rng, 3, 4)) for again in range(10)]
        before = copy.deepcopy(pairs)
        told = [(compared(*pair), alike(*pair)) for pair in pairs]
        again = [(compared(*pair), alike(*pair)) for pair in reversed(pairs)]
        self.assertEqual(told, again[::-1])
        self.assertEqual(pairs, before)

    def test_no_lists_in_what_is_told(self):
        for pair in ((clear(2), EYE), (EYE, clear(2))):
            told = compared(*pair)
            self.assertEqual({type(told[1]), type(told[1][0])} - {int}, {tuple})
            self.assertEqual(hash(told), hash(compared(*pair)))


if __name__ == "__main__":
    unittest.main()
