import copy
import functools
import itertools
import random
import unittest

from dullglass.compare import compared
from dullglass.dulls import dulled
from dullglass.errors import NoFit, TooMany
from dullglass.glasses import blind, clear, glass_of, signs
from dullglass.shelves import tops

from helpers import a_dulling, a_glass, loosened, row_of, small_glasses
from test_compare import CompareCase
from test_shares import strange

EYE = glass_of(6, [[3, 3, 0], [0, 2, 4]])
TURNED = glass_of(6, [[0, 3, 3], [4, 2, 0]])
# Neither dulls into the other: the one is sure of stand 0 at times, the other one of stand 1.
LEFT = glass_of(2, [[1, 1], [0, 2]])
RIGHT = glass_of(2, [[2, 0], [1, 1]])


@functools.lru_cache(maxsize=None)
def at_least(one, other):
    return compared(one, other)[0] == "dulls"


def wanted_tops(shelf):
    """By the document's words: no other one is better, nor is an alike one ahead."""
    found = []
    for k, glass in enumerate(shelf):
        better = [other for other in shelf if at_least(other, glass) and not at_least(glass, other)]
        ahead = [other for other in shelf[:k] if at_least(other, glass) and at_least(glass, other)]
        if not better and not ahead:
            found.append(k)
    return found


def a_shelf(rng, many, long):
    """Glasses drawn at random, some of them dulled of, or alike to, ones that stand there already."""
    shelf = [a_glass(rng, many, rng.randint(1, 4), 99)]
    while len(shelf) < long:
        one = rng.choice(shelf)
        kind = rng.randrange(4)
        if kind == 0 or one[0] > 999:
            other = a_glass(rng, many, rng.randint(1, 4), 99)
        elif kind == 1:
            other = dulled(one, a_dulling(rng, signs(one), rng.randint(1, 4), 60))
        elif kind == 2:
            other = loosened(rng, one, 4)
        else:
            other = one
        shelf.insert(rng.randint(0, len(shelf)), other)
    return shelf


class ShelfCase(CompareCase):
    def holds_tops(self, shelf):
        """Asks, and reckons out what is told."""
        before = copy.deepcopy(shelf)
        told = tops(shelf)
        self.assertEqual(shelf, before)
        self.assertIs(type(told), tuple)
        self.assertEqual([type(part) for part in told], [list, list])
        found, rows = told
        self.assertEqual({type(number) for number in found}, {int})
        self.assertEqual(found, wanted_tops(shelf))
        self.assertEqual([row[0] for row in rows], [k for k in range(len(shelf)) if k not in found])
        for row in rows:
            self.assertIs(type(row), tuple)
            number, by, dulling = row
            self.assertEqual([type(number), type(by)], [int, int])
            self.assertEqual(by, [k for k in found if at_least(shelf[k], shelf[number])][0])
            self.becomes(shelf[by], shelf[number], dulling)
        return told


class TestTops(ShelfCase):
    def test_one_alone(self):
        for glass in (EYE, clear(2), blind(4), clear(3)):
            self.assertEqual(tops([glass]), ([0], []))

    def test_clear_and_dull(self):
        told = self.holds_tops([blind(2), EYE, clear(2)])
        self.assertEqual(told[0], [2])
        self.assertEqual([row[:2] for row in told[1]], [(0, 2), (1, 2)])
        self.assertEqual(told[1][1][2], (6, ((3, 3, 0), (0, 2, 4))))
        told = self.holds_tops([clear(3), blind(3)])
        self.assertEqual(told, ([0], [(1, 0, (1, ((1,), (1,), (1,))))]))

    def test_neither_dulls_into_the_other(self):
        self.assertEqual(tops([LEFT, RIGHT]), ([0, 1], []))
        self.assertEqual(tops([RIGHT, LEFT]), ([0, 1], []))
        told = self.holds_tops([LEFT, blind(2), RIGHT])
        self.assertEqual(told[0], [0, 2])
        self.assertEqual(told[1], [(1, 0, (1, ((1,), (1,))))])
        told = self.holds_tops([LEFT, RIGHT, clear(2)])
        self.assertEqual(told[0], [2])
        self.assertEqual([row[:2] for row in told[1]], [(0, 2), (1, 2)])

    def test_by_the_first_top_that_dulls_into_it(self):
        # What comes of the second top alone isn't told by the first one.
        less = dulled(RIGHT, (2, ((2, 0), (1, 1))))
        told = self.holds_tops([LEFT, less, RIGHT])
        self.assertEqual(told[0], [0, 2])
        self.assertEqual([row[:2] for row in told[1]], [(1, 2)])
        told = self.holds_tops([less, blind(2), RIGHT, LEFT])
        self.assertEqual(told[0], [2, 3])
        self.assertEqual([row[:2] for row in told[1]], [(0, 2), (1, 2)])

    def test_alike_ones(self):
        told = self.holds_tops([EYE, TURNED, EYE])
        self.assertEqual(told[0], [0])
        self.assertEqual([row[:2] for row in told[1]], [(1, 0), (2, 0)])
        told = self.holds_tops([blind(2), TURNED, EYE, blind(2), TURNED])
        self.assertEqual(told[0], [1])
        self.assertEqual([row[:2] for row in told[1]], [(0, 1), (2, 1), (3, 1), (4, 1)])
        self.assertEqual(tops([clear(4)] * 5)[0], [0])

    def test_alike_ones_that_are_outdone(self):
        # Of alike ones even the first is no top where another one is better.
        told = self.holds_tops([EYE, TURNED, clear(2), EYE])
        self.assertEqual(told[0], [2])
        self.assertEqual([row[:2] for row in told[1]], [(0, 2), (1, 2), (3, 2)])

    def test_a_row_of_ever_duller_ones(self):
        rng = random.Random(500)
        for many in (2, 3, 4):
            shelf = [clear(many)]
            for wide in (4, 3, 2, 1):
                shelf.append(dulled(shelf[-1], a_dulling(rng, signs(shelf[-1]), wide, 9)))
            for places in itertools.permutations(range(5)):
                told = self.holds_tops([shelf[k] for k in places])
                # The clear one, or the first of those that lost nothing.
                self.assertEqual(told[0], [min(k for k in range(5) if at_least(shelf[places[k]], shelf[0]))])

    def test_small_ones_all(self):
        pool = sorted(set(small_glasses(2, 2, 2)))
        for long in (1, 2, 3):
            for shelf in itertools.product(pool, repeat=long):
                self.holds_tops(list(shelf))

    def test_small_ones_of_three_and_four_stands(self):
        rng = random.Random(501)
        for many, wide, bottom in ((3, 2, 2), (3, 3, 1), (4, 2, 1), (4, 3, 1)):
            pool = sorted(set(small_glasses(many, wide, bottom)))
            for long in (2, 3, 4, 5):
                for again in range(6):
                    self.holds_tops([rng.choice(pool) for place in range(long)])

    def test_any_shelves(self):
        rng = random.Random(502)
        how_many = []
        for many, long, again in itertools.product((2, 3, 4), (1, 2, 3, 4, 5), range(6)):
            found, rows = self.holds_tops(a_shelf(rng, many, long))
            how_many.append(len(found))
            self.assertEqual(len(found) + len(rows), long)
        self.assertLessEqual({1, 2, 3}, set(how_many))

    def test_five_tops(self):
        # By each of these other stands are told apart from the rest.
        groups = [[0, 1], [0, 2], [0, 3], [1], [2]]
        shelf = [glass_of(1, [[1, 0] if stand in group else [0, 1] for stand in range(4)]) for group in groups]
        self.assertEqual(self.holds_tops(shelf), ([0, 1, 2, 3, 4], []))

    def test_bottoms_of_six_figures(self):
        rng = random.Random(503)
        for many in (2, 3, 4):
            shelf = [glass_of(999999, [row_of(rng, 999999, 4) for stand in range(many)]) for place in range(5)]
            self.holds_tops(shelf)


class TestRefused(ShelfCase):
    def test_no_glass_or_more_than_five(self):
        self.refused(NoFit, tops, [])
        for many, long in itertools.product((2, 3, 4), (6, 7, 20, 400)):
            self.refused(NoFit, tops, [clear(many)] * long)

    def test_unlike_stands(self):
        for one, other in itertools.permutations([clear(2), clear(3), blind(4)], 2):
            self.refused(NoFit, tops, [one, other])
            for place in range(5):
                shelf = [one] * 5
                shelf[place] = other
                self.refused(NoFit, tops, shelf)

    def test_more_than_four_signs(self):
        rng = random.Random(510)
        for many, wide in itertools.product((2, 3, 4), range(5, 13)):
            glass = a_glass(rng, many, wide)
            self.refused(TooMany, tops, [glass])
            for place in range(5):
                shelf = [clear(many)] * 5
                shelf[place] = glass
                self.refused(TooMany, tops, shelf)

    def test_four_signs_are_none_too_many(self):
        rng = random.Random(511)
        for many in (2, 3, 4):
            self.holds_tops([a_glass(rng, many, 4) for place in range(2)])

    def test_no_fit_goes_ahead(self):
        rng = random.Random(512)
        great = a_glass(rng, 2, 5)
        self.refused(NoFit, tops, [great] * 6)
        for shelf in itertools.permutations([great, clear(2), clear(3)]):
            self.refused(NoFit, tops, list(shelf))
        self.refused(NoFit, tops, [great, a_glass(rng, 3, 5)])

    def test_what_is_no_list(self):
        for thing in strange() + [(clear(2),), (clear(2), EYE), clear(2), {0: clear(2)}, 1]:
            if not isinstance(thing, list):
                self.refused(NoFit, tops, thing)


class TestNothingChanged(ShelfCase):
    def test_what_was_told_is_the_askers_own(self):
        shelf = [blind(2), EYE, clear(2), TURNED]
        told = tops(shelf)
        wanted = copy.deepcopy(told)
        self.assertIsNot(told[0], told[1])
        told[0].append(7)
        told[1].clear()
        self.assertEqual(tops(shelf), wanted)

    def test_the_shelf_changed_later(self):
        shelf = [blind(2), EYE, clear(2)]
        told = tops(shelf)
        wanted = copy.deepcopy(told)
        shelf.pop()
        self.assertEqual(told, wanted)
        self.assertEqual(tops(shelf)[0], [1])


if __name__ == "__main__":
    unittest.main()
