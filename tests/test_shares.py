import itertools
import math
import unittest

from dullglass.errors import NoShare
from dullglass.shares import added, below, share, taken, times

LONG = 10 ** 60 - 1
OTHER_LONG = int("1234567890" * 6)
SMALL = range(-7, 8)
BOTTOMS = [number for number in SMALL if number != 0]
NUMBERS = [0, 1, -1, 2, -3, 12, 10 ** 6, LONG, -LONG, OTHER_LONG, -OTHER_LONG, LONG - 1, 2 ** 190]


class Odd:
    """A thing that answers each question with an error."""

    def __eq__(self, other):
        raise RuntimeError("asked")

    __hash__ = None

    def __bool__(self):
        raise RuntimeError("asked")

    def __len__(self):
        raise RuntimeError("asked")

    def __index__(self):
        return 1

    def __int__(self):
        return 1


def strange():
    return [True, False, None, "", "1", "1/2", b"1", 1.0, 0.5, 1j, [], [1], [1, 2], (), (1,), (1, 2), {}, {1: 2},
            {1, 2}, frozenset(), range(3), iter([1]), object(), Odd(), int, len, float("nan"), float("inf")]


def no_shares():
    wrong = [(2, 4), (0, 2), (1, 0), (0, 0), (1, -2), (-1, -2), (1, True), (True, 1), (1, 2, 3), (1, "2"), (None, 1),
             0, 1]
    return wrong + [thing for thing in strange() if type(thing) is not tuple or thing != (1, 2)]


# Shares, but none from 0 to 1.
OUTSIDE = [(-1, 1), (2, 1), (-1, 2), (3, 2), (-1, LONG), (LONG + 1, LONG), (LONG, LONG - 1), (-LONG, 1), (LONG, 1)]


class ShareCase(unittest.TestCase):
    def is_share(self, told):
        self.assertIs(type(told), tuple)
        self.assertEqual(len(told), 2)
        self.assertIs(type(told[0]), int)
        self.assertIs(type(told[1]), int)
        self.assertGreaterEqual(told[1], 1)
        self.assertEqual(math.gcd(told[0], told[1]), 1)

    def stands_for(self, told, top, bottom):
        self.is_share(told)
        self.assertEqual(told[0] * bottom, top * told[1])


class TestMade(ShareCase):
    def test_written_out(self):
        self.assertEqual(share(1, 2), (1, 2))
        self.assertEqual(share(2, 4), (1, 2))
        self.assertEqual(share(-2, 4), (-1, 2))
        self.assertEqual(share(2, -4), (-1, 2))
        self.assertEqual(share(-2, -4), (1, 2))
        self.assertEqual(share(6, 3), (2, 1))
        self.assertEqual(share(3, -1), (-3, 1))
        self.assertEqual(share(0, 1), (0, 1))
        self.assertEqual(share(0, 60), (0, 1))
        self.assertEqual(share(0, -60), (0, 1))

    def test_small_and_long_numbers(self):
        for top, bottom in itertools.product(list(SMALL) + NUMBERS, BOTTOMS + NUMBERS[1:]):
            self.stands_for(share(top, bottom), top, bottom)

    def test_sixty_figures_with_common_divisors(self):
        half = 10 ** 29 + 7
        self.assertEqual(share(half * (10 ** 30), half * 3), (10 ** 30, 3))
        self.assertEqual(share(-LONG, LONG), (-1, 1))
        self.assertEqual(share(LONG, -9), (-(LONG // 9), 1))
        self.assertEqual(share(0, -LONG), (0, 1))
        self.assertEqual(share(LONG, LONG - 1), (LONG, LONG - 1))

    def test_one_number_is_one_share_only(self):
        for top, bottom in itertools.product(SMALL, BOTTOMS):
            for factor in (-LONG, -5, -1, 2, 360):
                self.assertEqual(share(top * factor, bottom * factor), share(top, bottom))

    def test_unlike_numbers_are_unlike_shares(self):
        pairs = list(itertools.product(SMALL, BOTTOMS))
        for one, other in itertools.product(pairs, pairs):
            same = one[0] * other[1] == other[0] * one[1]
            self.assertEqual(share(*one) == share(*other), same, (one, other))

    def test_asked_again_told_again(self):
        self.assertEqual([share(8, -6) for again in range(3)], [(-4, 3)] * 3)


class TestRefused(ShareCase):
    def refused(self, ask, *handed):
        with self.assertRaises(NoShare) as caught:
            ask(*handed)
        self.assertIs(type(caught.exception), NoShare)

    def test_second_number_nought(self):
        for top in NUMBERS:
            self.refused(share, top, 0)

    def test_no_whole_number_in_either_place(self):
        for number in (-1, 0, 1, 5, LONG):
            for thing in strange():
                self.refused(share, thing, number)
                self.refused(share, number, thing)

    def test_no_whole_number_in_both_places(self):
        for one, other in itertools.product(strange(), strange()):
            self.refused(share, one, other)

    def test_no_share_where_shares_are_reckoned(self):
        for ask in (added, taken, times, below):
            for thing in no_shares():
                self.refused(ask, thing, (1, 2))
                self.refused(ask, (1, 2), thing)


class TestReckoned(ShareCase):
    def setUp(self):
        small = {share(top, bottom) for top, bottom in itertools.product(range(-4, 5), (1, 2, 3, 4, 6))}
        longer = {share(top, bottom) for top, bottom in itertools.product(NUMBERS, (1, 6, LONG, -OTHER_LONG))}
        self.shares = sorted(small | longer)

    def test_by_both_sides_multiplied(self):
        for one, other in itertools.product(self.shares, self.shares):
            (a, b), (c, d) = one, other
            self.stands_for(added(one, other), a * d + c * b, b * d)
            self.stands_for(taken(one, other), a * d - c * b, b * d)
            self.stands_for(times(one, other), a * c, b * d)
            self.assertIs(below(one, other), a * d < c * b)

    def test_written_out(self):
        self.assertEqual(added((1, 2), (1, 3)), (5, 6))
        self.assertEqual(added((1, 6), (1, 3)), (1, 2))
        self.assertEqual(added((1, 2), (-1, 2)), (0, 1))
        self.assertEqual(taken((1, 3), (1, 2)), (-1, 6))
        self.assertEqual(taken((1, 2), (1, 6)), (1, 3))
        self.assertEqual(times((2, 3), (-3, 4)), (-1, 2))
        self.assertEqual(times((0, 1), (-3, 4)), (0, 1))
        self.assertIs(below((1, 3), (1, 2)), True)
        self.assertIs(below((1, 2), (1, 3)), False)
        self.assertIs(below((-1, 2), (-1, 3)), True)

    def test_a_share_less_itself(self):
        for one in self.shares:
            self.assertEqual(taken(one, one), (0, 1))
            self.assertIs(below(one, one), False)

    def test_shares_that_differ_by_very_little(self):
        one = share(LONG - 1, LONG)
        other = share(LONG - 2, LONG - 1)
        self.assertIs(below(other, one), True)
        self.assertIs(below(one, other), False)
        self.assertEqual(taken(one, other), (1, LONG * (LONG - 1)))
        self.assertEqual(taken(other, one), (-1, LONG * (LONG - 1)))

    def test_what_is_told_may_be_handed_on_however_long(self):
        one = share(LONG, OTHER_LONG + 2)
        for again in range(5):
            one = times(one, one)
        self.assertGreater(one[1], 10 ** 1800)
        self.assertEqual(taken(added(one, (1, 3)), (1, 3)), one)
        self.assertIs(below(one, added(one, share(1, one[1] ** 2))), True)


if __name__ == "__main__":
    unittest.main()
