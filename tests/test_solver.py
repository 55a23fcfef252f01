import copy
import itertools
import math
import random
import signal
import unittest
from fractions import Fraction

from dullglass.errors import TooMany
from dullglass.glasses import clear
from dullglass.solver import solved

from helpers import BIG, a_dulling, a_glass, fractions_of
from test_glasses import TableCase

# Far more than all the systems of one test need: only a search that doesn't end is stopped by it.
SECONDS = 300


def turned(rows):
    return [list(column) for column in zip(*rows)]


def times_values(rows, values):
    return [sum(number * value for number, value in zip(row, values)) for row in rows]


def dulling_system(one, other):
    """The equations of the dullings by which the one becomes the other, an unknown for each old and new sign."""
    first, second = fractions_of(one), fractions_of(other)
    old, new = len(first[0]), len(second[0])
    rows, sums = [], []
    for stand, sign in itertools.product(range(len(first)), range(new)):
        row = [first[stand][i] if j == sign else Fraction(0) for i in range(old) for j in range(new)]
        whole = math.lcm(*[number.denominator for number in row + [second[stand][sign]]])
        rows.append([int(number * whole) for number in row])
        sums.append(int(second[stand][sign] * whole))
    for sign in range(old):
        rows.append([1 if i == sign else 0 for i in range(old) for j in range(new)])
        sums.append(1)
    return rows, sums


class SolverCase(unittest.TestCase):
    def setUp(self):
        self.before = signal.signal(signal.SIGALRM, self.stopped)
        signal.alarm(SECONDS)

    def tearDown(self):
        signal.alarm(0)
        signal.signal(signal.SIGALRM, self.before)

    def stopped(self, number, frame):
        raise RuntimeError("the search doesn't end")

    def holds(self, rows, sums, told=None):
        """Asks, and reckons out what is told: either answer shows by itself that the other one can't be."""
        if told is None:
            handed = copy.deepcopy((rows, sums))
            told = solved(rows, sums)
            self.assertEqual((rows, sums), handed)
        self.assertIs(type(told), tuple)
        self.assertEqual(len(told), 2)
        kind, found = told
        self.assertIs(type(found), list)
        self.assertIn(kind, ("fits", "none"))
        if kind == "fits":
            self.values_fit(rows, sums, found)
        else:
            self.none_fit(rows, sums, found)
        return kind

    def values_fit(self, rows, sums, values):
        self.assertEqual([len(values)] * len(rows), [len(row) for row in rows])
        for value in values:
            self.assertIs(type(value), tuple)
            self.assertEqual([type(number) for number in value], [int, int])
            self.assertTrue(value[0] >= 0 and value[1] >= 1)
            self.assertEqual(math.gcd(*value), 1)
        self.assertEqual(times_values(rows, [Fraction(*value) for value in values]), sums)

    def none_fit(self, rows, sums, weights):
        self.assertEqual(len(weights), len(rows))
        self.assertEqual({type(weight) for weight in weights}, {int})
        for came in times_values(turned(rows), weights):
            self.assertLessEqual(came, 0)
        self.assertGreater(sum(weight * total for weight, total in zip(weights, sums)), 0)


class TestWrittenOut(SolverCase):
    def test_one_value_only(self):
        self.assertEqual(solved([[2]], [3]), ("fits", [(3, 2)]))
        self.assertEqual(solved([[-4]], [-6]), ("fits", [(3, 2)]))
        self.assertEqual(solved([[5]], [0]), ("fits", [(0, 1)]))
        self.assertEqual(solved([[1, 1], [1, -1]], [3, 1]), ("fits", [(2, 1), (1, 1)]))
        self.assertEqual(solved([[1, 2], [3, 4]], [5, 11]), ("fits", [(1, 1), (2, 1)]))
        self.assertEqual(solved([[0, 3], [2, 0], [2, 3]], [1, 1, 2]), ("fits", [(1, 2), (1, 3)]))
        self.assertEqual(solved([[1, 1, 1], [0, 1, 2], [0, 0, 5]], [1, 1, 0]), ("fits", [(0, 1), (1, 1), (0, 1)]))

    def test_which_of_both(self):
        for rows, sums, kind in [
            ([[0]], [0], "fits"), ([[0]], [1], "none"), ([[0]], [-1], "none"), ([[1]], [-1], "none"),
            ([[-1]], [1], "none"), ([[-1]], [-1], "fits"), ([[1], [1]], [1, 2], "none"), ([[1], [2]], [1, 2], "fits"),
            ([[1], [-1]], [1, -1], "fits"), ([[1], [-1]], [1, 1], "none"), ([[1, -1]], [-5], "fits"),
            ([[1, 1]], [-5], "none"), ([[1, 1], [1, 1]], [0, 0], "fits"), ([[1, 1], [1, 1]], [0, 1], "none"),
            ([[1, 1], [1, -1]], [1, 2], "none"), ([[1, 1], [1, -1]], [2, 1], "fits"),
            ([[0, 0], [0, 0]], [0, 0], "fits"), ([[0, 0], [0, 1]], [7, 1], "none"), ([[2, 4]], [3], "fits"),
        ]:
            self.assertEqual(self.holds(rows, sums), kind, (rows, sums))

    def test_fitting_without_a_sign_but_not_with_none_below_nought(self):
        self.assertEqual(self.holds([[1, 1], [1, 2]], [3, 7]), "none")
        self.assertEqual(self.holds([[1, 2, 3], [4, 5, 6], [7, 8, 10]], [-1, -1, -2]), "none")

    def test_the_two_words(self):
        self.assertEqual(solved([[1]], [1])[0], "fits")
        kind, weights = solved([[1]], [-1])
        self.assertEqual(kind, "none")
        self.assertLess(weights[0], 0)


class TestSmall(SolverCase):
    def all_systems(self, rows, unknowns, numbers, sums):
        kinds = {"fits": 0, "none": 0}
        for flat in itertools.product(numbers, repeat=rows * unknowns):
            table = [list(flat[k * unknowns:(k + 1) * unknowns]) for k in range(rows)]
            for right in itertools.product(sums, repeat=rows):
                kinds[self.holds(table, list(right))] += 1
        self.assertGreater(min(kinds.values()), 0)

    def test_one_row(self):
        self.all_systems(1, 1, range(-3, 4), range(-3, 4))
        self.all_systems(1, 2, range(-2, 3), range(-2, 3))
        self.all_systems(1, 3, (-1, 0, 2), (-1, 0, 2))

    def test_two_rows(self):
        self.all_systems(2, 1, range(-2, 3), range(-2, 3))
        self.all_systems(2, 2, (-1, 0, 1), (-2, -1, 0, 1, 2))
        self.all_systems(2, 3, (-1, 0, 1), (-1, 0, 1))

    def test_three_rows(self):
        self.all_systems(3, 1, (-1, 0, 1), (-1, 0, 1))
        self.all_systems(3, 2, (-1, 0, 1), (0, 1))

    def test_many_more(self):
        rng = random.Random(100)
        for again in range(3000):
            rows, unknowns, most = rng.randint(1, 6), rng.randint(1, 6), rng.choice([1, 2, 9, BIG])
            table = [[rng.randint(-most, most) for number in range(unknowns)] for row in range(rows)]
            self.holds(table, [rng.choice([0, rng.randint(-most, most)]) for row in range(rows)])
            values = [rng.choice([0, 1, 2]) for number in range(unknowns)]
            self.assertEqual(self.holds(table, times_values(table, values)), "fits")

    def test_in_steps_along_the_way(self):
        # Just at the edge, and a little beyond it on either side.
        rows = [[3, 1, 0], [1, 0, 1]]
        for total in range(-3, 8):
            for other in range(-3, 4):
                wanted = "fits" if total >= 0 and other >= 0 else "none"
                self.assertEqual(self.holds(rows, [total, other]), wanted)


class TestGreat(SolverCase):
    def numbers(self, rng, rows, unknowns):
        return [[rng.randint(-BIG, BIG) for number in range(unknowns)] for row in range(rows)]

    def nearly_cancelling(self, rng, rows, unknowns):
        """Numbers of six figures whose sum has no more than that: each two of them nearly cancel."""
        table = []
        for row in range(rows):
            numbers = []
            for pair in range(unknowns // 2):
                number = rng.choice([-1, 1]) * rng.randint(100000, 949999)
                numbers += [number, -number + rng.choice([-1, 1]) * rng.randint(0, 49999)]
            table.append(numbers)
        return table

    def test_one_solution_only(self):
        rng = random.Random(110)
        for again in range(8):
            rows = self.nearly_cancelling(rng, 24, 20)
            sums = times_values(rows, [1] * 20)
            self.assertLessEqual(max(map(abs, sums)), BIG)
            self.assertEqual(solved(rows, sums), ("fits", [(1, 1)] * 20))
            self.assertEqual(self.holds(rows, sums), "fits")

    def test_one_solution_with_a_value_below_nought(self):
        rng = random.Random(111)
        for again in range(8):
            rows = self.nearly_cancelling(rng, 24, 20)
            place = rng.randrange(20)
            sums = times_values(rows, [1] * 20)
            flipped = [[-number if k == place else number for k, number in enumerate(row)] for row in rows]
            self.assertEqual(self.holds(flipped, sums), "none")

    def test_one_sum_off_by_one(self):
        rng = random.Random(112)
        for again in range(8):
            rows = self.nearly_cancelling(rng, 24, 20)
            sums = times_values(rows, [1] * 20)
            sums[rng.randrange(24)] += 1
            self.assertEqual(self.holds(rows, sums), "none")

    def test_shares_of_columns(self):
        rng = random.Random(113)
        for rows, again in itertools.product((5, 10, 15, 20, 24), range(4)):
            table = [[2 * (number // 2) for number in row] for row in self.numbers(rng, rows, 20)]
            sums = [(row[3] + row[11]) // 2 for row in table]
            self.assertEqual(self.holds(table, sums), "fits")

    def test_any_numbers(self):
        rng = random.Random(114)
        kinds = []
        for rows, again in itertools.product((1, 4, 8, 10, 12, 16, 20, 24), range(6)):
            table = self.numbers(rng, rows, 20)
            kinds.append(self.holds(table, [rng.randint(-BIG, BIG) for row in range(rows)]))
            kinds.append(self.holds(table[:-1] + [[BIG] * 20], [0] * (rows - 1) + [BIG]))
        self.assertEqual(set(kinds), {"fits", "none"})

    def test_all_numbers_the_greatest(self):
        for rows, unknowns in itertools.product((1, 24), (1, 20)):
            self.assertEqual(self.holds([[BIG] * unknowns] * rows, [BIG] * rows), "fits")
            self.assertEqual(self.holds([[-BIG] * unknowns] * rows, [-BIG] * rows), "fits")
            self.assertEqual(self.holds([[BIG] * unknowns] * rows, [-BIG] * rows), "none")
            self.assertEqual(self.holds([[0] * unknowns] * rows, [0] * rows), "fits")
            self.assertEqual(self.holds([[0] * unknowns] * rows, [0] * (rows - 1) + [1]), "none")

    def test_rows_that_hang_on_one_another(self):
        rng = random.Random(115)
        for again in range(10):
            some = [[rng.randint(-400, 400) for number in range(20)] for row in range(6)]
            mixes = [[rng.randint(-100, 100) for row in range(6)] for row in range(18)]
            rows = some + [times_values(turned(some), mix) for mix in mixes]
            values = [rng.choice([0, 0, 1]) for number in range(20)]
            sums = times_values(rows, values)
            self.assertEqual(self.holds(rows, sums), "fits")
            sums[rng.randrange(24)] += rng.choice([-1, 1])
            self.assertEqual(self.holds(rows, sums), "none")


class TestAlwaysEnds(SolverCase):
    def test_noughts_everywhere(self):
        rng = random.Random(120)
        kinds = []
        for again in range(400):
            rows, most = rng.randint(2, 23), rng.choice([1, 1, 2, 3])
            table = [[rng.randint(-most, most) for number in range(20)] for row in range(rows)]
            kinds.append(self.holds(table + [[1] * 20], [0] * rows + [1]))
        self.assertEqual(set(kinds), {"fits", "none"})

    def test_those_that_turn_in_a_ring_by_a_greedy_choice(self):
        # Beale's and Kuhn's programs, cleared of fractions, with slacks and the best they come to as a row.
        beale = [[25, -6000, -4, 900, 1, 0, 0], [25, -4500, -1, 150, 0, 1, 0], [0, 0, 1, 0, 0, 0, 1]]
        goal = [75, -15000, 2, -600, 0, 0, 0]
        self.assertEqual(self.holds(beale + [goal], [0, 0, 1, 5]), "fits")
        self.assertEqual(self.holds(beale + [goal], [0, 0, 1, 6]), "none")
        kuhn = [[-2, -9, 1, 9, 1, 0, 0], [1, 3, -1, -6, 0, 3, 0], [2, 3, -1, -12, 0, 0, 1]]
        goal = [2, 3, -1, -12, 0, 0, 0]
        for total in range(0, 5):
            wanted = "fits" if total <= 2 else "none"
            self.assertEqual(self.holds(kuhn + [goal], [0, 0, 2, total]), wanted)

    def test_the_long_way_round_a_dented_box(self):
        # Klee and Minty's box of nine sides, with a slack for each, its goal as a row of its own.
        rows, sums = [], []
        for k in range(9):
            rows.append([2 * 2 ** (k - j) if j < k else 1 if j == k else 0 for j in range(9)]
                        + [1 if j == k else 0 for j in range(9)])
            sums.append(5 ** k)
        goal = [2 ** (8 - j) for j in range(9)] + [0] * 9
        most = 5 ** 8
        self.assertEqual(self.holds(rows + [goal], sums + [most]), "fits")
        self.assertEqual(self.holds(rows + [goal], sums + [most + 1]), "none")

    def test_shares_out_of_stores(self):
        # Four stores and five shops: each row and each column of the shares has a sum of its own.
        rng = random.Random(121)
        for again in range(60):
            rows = [[1 if k // 5 == store else 0 for k in range(20)] for store in range(4)]
            rows += [[1 if k % 5 == shop else 0 for k in range(20)] for shop in range(5)]
            shares = [rng.choice([0, 0, 1, 3, 1000]) for k in range(20)]
            sums = times_values(rows, shares)
            self.assertEqual(self.holds(rows, sums), "fits")
            sums[rng.randrange(9)] += 1
            self.assertEqual(self.holds(rows, sums), "none")

    def test_dullings_as_unknowns(self):
        rng = random.Random(122)
        for again in range(60):
            stands, old, new = rng.choice([(2, 4, 4), (3, 4, 4), (4, 4, 4), (4, 4, 5), (4, 5, 4), (3, 2, 4)])
            one, dulling = a_glass(rng, stands, old), a_dulling(rng, old, new)
            if old == new:
                self.assertEqual(self.holds(*dulling_system(one, one)), "fits")
            other = [[sum(a * b for a, b in zip(row, column)) for column in zip(*fractions_of(dulling))]
                     for row in fractions_of(one)]
            bottom = math.lcm(*[number.denominator for row in other for number in row])
            made = (bottom, tuple(tuple(int(number * bottom) for number in row) for row in other))
            rows, sums = dulling_system(one, made)
            self.assertEqual(self.holds(rows, sums), "fits")
            self.holds(*dulling_system(one, a_glass(rng, stands, new)))

    def test_nothing_dulls_into_the_clear_glass_but_itself(self):
        for stands in (2, 3, 4):
            self.assertEqual(self.holds(*dulling_system(clear(stands), clear(stands))), "fits")
        rng = random.Random(123)
        for again in range(20):
            self.assertEqual(self.holds(*dulling_system(a_glass(rng, 4, 3), clear(4))), "none")


class TestTooMany(SolverCase):
    def refused(self, rows, sums):
        TableCase.refused(self, TooMany, solved, rows, sums)

    def test_unknowns_and_rows(self):
        for rows, unknowns in itertools.product((1, 2, 23, 24, 25, 26, 100, 400), (1, 2, 19, 20, 21, 22, 100, 400)):
            table, sums = [[1] * unknowns for row in range(rows)], [1] * rows
            if rows <= 24 and unknowns <= 20:
                self.assertEqual(self.holds(table, sums), "fits")
            else:
                self.refused(table, sums)
                self.assertEqual(table, [[1] * unknowns for row in range(rows)])

    def test_whatever_would_be_told(self):
        self.refused([[0] * 21], [1])
        self.refused([[0] * 21], [0])
        self.refused([[1]] * 25, [1] * 25)
        self.refused([[1]] * 25, [-1] * 25)
        self.refused([[0]] * 25, [0] * 25)


class TestSomewhatBeyond(SolverCase):
    def test_longer_numbers(self):
        long = 10 ** 60 - 1
        self.assertEqual(solved([[long]], [1]), ("fits", [(1, long)]))
        rng = random.Random(130)
        for again in range(10):
            table = [[rng.randint(-long, long) for number in range(6)] for row in range(4)]
            self.holds(table, [rng.randint(-long, long) for row in range(4)])

    def test_no_rows_and_no_unknowns(self):
        self.assertEqual(solved([], []), ("fits", []))
        self.assertEqual(solved([[], []], [0, 0]), ("fits", []))
        self.assertEqual(self.holds([[], []], [0, 2]), "none")


class TestNothingChanged(SolverCase):
    def test_what_is_handed_in(self):
        rng = random.Random(140)
        for again in range(50):
            table = [[rng.randint(-5, 5) for number in range(5)] for row in range(4)]
            sums = [rng.randint(-5, 5) for row in range(4)]
            before = copy.deepcopy((table, sums))
            solved(table, sums)
            self.assertEqual((table, sums), before)

    def test_one_row_handed_in_twice(self):
        row = [1, -2, 3]
        self.assertEqual(self.holds([row, row], [3, 3]), "fits")
        self.assertEqual(self.holds([row, row], [-3, 3]), "none")
        both = [1, 1]
        self.assertEqual(self.holds([both, both], both), "fits")
        self.assertEqual((row, both), ([1, -2, 3], [1, 1]))

    def test_what_was_told_is_the_askers_own(self):
        for rows, sums in (([[1, 1], [1, -1]], [3, 1]), ([[1, 1], [1, -1]], [1, 3])):
            told = solved(rows, sums)
            wanted = copy.deepcopy(told)
            told[1][0] = (99, 1)
            told[1].append("more")
            self.assertEqual(solved(rows, sums), wanted)

    def test_what_was_handed_in_changed_later(self):
        for sums in ([3, 1], [1, 3]):
            rows = [[1, 1], [1, -1]]
            told = solved(rows, sums)
            wanted, kept_sums = copy.deepcopy(told), list(sums)
            rows[0][0] = 7
            rows.append([0, 0])
            sums.clear()
            self.assertEqual(told, wanted)
            self.assertEqual(solved([[1, 1], [1, -1]], kept_sums), wanted)

    def test_no_list_in_it_is_one_that_was_handed_in(self):
        for rows, sums in (([[1, 0], [0, 1]], [2, 3]), ([[1, 0], [0, 1]], [-2, 3])):
            told = solved(rows, sums)
            self.assertFalse(any(told[1] is thing for thing in rows + [rows, sums]))


if __name__ == "__main__":
    unittest.main()
