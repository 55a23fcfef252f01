"""The promise over the whole program, reckoned out over the functions of all stages, and by the desk alone."""

import copy
import importlib
import inspect
import itertools
import random
import unittest
from fractions import Fraction

from dullglass.beliefs import beliefs, glass_by
from dullglass.compare import alike, compared
from dullglass.curves import curve, height, held
from dullglass.decisions import best, gain
from dullglass.desk import Desk
from dullglass.dulls import behind, beside, dulled, joined, kept, mixed
from dullglass.errors import NoFit, NoShare, TooMany
from dullglass.glasses import (
    blind, clear, dulling_of, glass_of, is_dulling, is_glass, share_at, signs, stands)
from dullglass.least import least
from dullglass.shares import added, below, share, taken, times
from dullglass.shelves import tops
from dullglass.solver import solved
from dullglass.texts import read_dulling, read_glass, read_payoffs, show_glass, show_payoffs, show_share

from helpers import a_dulling, a_glass, loosened, small_glasses
from test_compare import CompareCase
from test_curves import wanted_curve, wanted_height
from test_texts import written_table

# Each function and the method of the interface, with its arguments.
INTERFACE = {
    "shares": {"share": "top bottom", "added": "one other", "taken": "one other", "times": "one other",
               "below": "one other"},
    "glasses": {"glass_of": "bottom rows", "dulling_of": "bottom rows", "is_glass": "thing", "is_dulling": "thing",
                "share_at": "glass stand sign", "stands": "glass", "signs": "glass", "clear": "many", "blind": "many"},
    "dulls": {"dulled": "glass dulling", "beside": "one other", "mixed": "part one other", "joined": "glass i j",
              "kept": "glass some", "behind": "first second"},
    "decisions": {"gain": "glass payoffs plan", "best": "glass payoffs"},
    "solver": {"solved": "rows sums"},
    "compare": {"compared": "one other", "alike": "one other"},
    "least": {"least": "glass"},
    "beliefs": {"beliefs": "glass weights", "glass_by": "weights rows"},
    "curves": {"curve": "glass", "height": "glass x", "held": "one other"},
    "shelves": {"tops": "shelf"},
    "texts": {"show_share": "one", "show_glass": "glass", "show_payoffs": "payoffs", "read_glass": "text",
              "read_dulling": "text", "read_payoffs": "text"},
    "desk": {"Desk": ""},
}
EYE = (6, ((3, 3, 0), (0, 2, 4)))
DULLING = (2, ((1, 1), (2, 0), (0, 2)))
PAYOFFS = ((1, 0), (-1, 2))


def asked():
    """Each function with what may be handed to it, its lists made anew each time."""
    return [
        (share, [6, -4]), (added, [(1, 2), (1, 3)]), (taken, [(1, 2), (1, 3)]), (times, [(1, 2), (1, 3)]),
        (below, [(1, 2), (1, 3)]),
        (glass_of, [12, [[6, 6, 0], [0, 4, 8]]]), (dulling_of, [4, [[2, 2], [4, 0], [0, 4]]]), (is_glass, [EYE]),
        (is_glass, [[6, [[3, 3, 0], [0, 2, 4]]]]), (is_dulling, [DULLING]), (is_dulling, [[[2], [[1, 1]]]]),
        (share_at, [EYE, 1, 2]), (stands, [EYE]), (signs, [EYE]), (clear, [3]), (blind, [4]),
        (dulled, [EYE, DULLING]), (beside, [EYE, clear(2)]), (mixed, [(1, 3), EYE, clear(2)]), (joined, [EYE, 0, 2]),
        (kept, [clear(4), [0, 1, 3]]), (behind, [DULLING, (1, ((0, 1), (1, 0)))]),
        (gain, [EYE, PAYOFFS, (0, 0, 1)]), (best, [EYE, PAYOFFS]),
        (solved, [[[1, 1], [1, -1]], [3, 1]]), (solved, [[[1, 1], [1, -1]], [1, 3]]),
        (solved, [[[2, 3, 0], [0, 1, 5], [1, 1, 1]], [7, -9, 4]]),
        (compared, [clear(2), EYE]), (compared, [EYE, clear(2)]), (alike, [EYE, clear(2)]), (least, [EYE]),
        (beliefs, [EYE, (1, 3)]),
        (glass_by, [(1, 3), [((1, 2), ((0, 1), (1, 1))), ((3, 8), ((1, 3), (2, 3))), ((1, 8), ((1, 1), (0, 1)))]]),
        (curve, [EYE]), (height, [EYE, (1, 4)]), (held, [EYE, clear(2)]), (held, [clear(2), EYE]),
        (tops, [[blind(2), EYE, clear(2), EYE]]), (tops, [[EYE]]),
        (show_share, [(-1, 2)]), (show_glass, [EYE]), (show_glass, [DULLING]), (show_payoffs, [PAYOFFS]),
        (read_glass, ["1/2 1/2 0 | 0 1/3 2/3"]), (read_dulling, ["1"]), (read_payoffs, ["1 0 | -1 2"]),
    ]


def lists_in(thing):
    """Each list in it, itself too, as often as it stands there."""
    if not isinstance(thing, (list, tuple)):
        return []
    return [thing] * isinstance(thing, list) + [found for part in thing for found in lists_in(part)]


def spoiled(thing):
    """Changes each list in it."""
    for found in lists_in(thing):
        found.reverse()
        found.append("spoiled")
        found[0] = None


def number_of(one):
    return Fraction(*one)


def gained(glass, payoffs):
    return number_of(best(glass, payoffs)[0])


class TestInterface(unittest.TestCase):
    def test_all_is_there_under_its_name(self):
        for module, functions in INTERFACE.items():
            found = importlib.import_module("dullglass." + module)
            for name, arguments in functions.items():
                ask = getattr(found, name)
                self.assertEqual(ask.__module__, "dullglass." + module)
                self.assertEqual(list(inspect.signature(ask).parameters), arguments.split(), name)
        self.assertEqual(list(inspect.signature(Desk().say).parameters), ["row"])

    def test_each_function_is_asked_below(self):
        names = {name for functions in INTERFACE.values() for name in functions} - {"Desk"}
        self.assertEqual({ask.__name__ for ask, handed in asked()}, names)


class TestNothingChanged(unittest.TestCase):
    def test_what_is_handed_in_stays_as_it_was(self):
        for ask, handed in asked():
            before = copy.deepcopy(handed)
            ask(*handed)
            self.assertEqual(handed, before, ask)

    def test_no_two_lists_in_what_is_told_are_one(self):
        many = 0
        for ask, handed in asked():
            found = lists_in(ask(*handed))
            self.assertEqual(len({id(one) for one in found}), len(found), ask)
            many += len(found)
            # Nor is any of them one that was handed in.
            self.assertEqual({id(one) for one in lists_in(ask(*handed))} & {id(one) for one in lists_in(handed)}, set())
        self.assertGreater(many, 6)

    def test_what_was_told_changed_by_the_asker(self):
        wanted = [copy.deepcopy(ask(*handed)) for ask, handed in asked()]
        for ask, handed in asked():
            spoiled(ask(*handed))
            spoiled(ask(*handed))
        self.assertEqual([ask(*handed) for ask, handed in asked()], wanted)

    def test_what_was_told_changed_and_the_same_handed_in_again(self):
        for ask, handed in asked():
            told = ask(*handed)
            wanted = copy.deepcopy(told)
            spoiled(told)
            self.assertEqual(ask(*handed), wanted, ask)

    def test_what_was_handed_in_changed_behind_the_call(self):
        wanted = [copy.deepcopy(ask(*handed)) for ask, handed in asked()]
        told = []
        for ask, handed in asked():
            told.append(ask(*handed))
            spoiled(handed)
        self.assertEqual(told, wanted)
        self.assertEqual([ask(*handed) for ask, handed in asked()], wanted)

    def test_what_is_told_later_changes_nothing(self):
        told = [ask(*handed) for ask, handed in asked()]
        before = copy.deepcopy(told)
        again = [ask(*handed) for ask, handed in reversed(asked())]
        self.assertEqual(told, before)
        self.assertEqual(again[::-1], before)


class TestTheFirstRefusalFirst(CompareCase):
    """Of two refusals that are due at once, over the stages that follow one another."""

    def test_over_the_stages(self):
        wide = glass_of(5, [[1] * 5] * 2)
        for ask, handed, kind in [
            (mixed, ((2, 1), wide, clear(3)), NoShare), (mixed, ((1, 2), wide, glass_of(8, [[1] * 8] * 3)), NoFit),
            (beside, (wide, glass_of(5, [[1] * 5] * 3)), NoFit), (compared, (wide, clear(3)), NoFit),
            (alike, (clear(3), wide), NoFit), (height, (clear(3), (2, 1)), NoFit), (held, (clear(3), wide), NoFit),
            (tops, ([wide] * 6,), NoFit), (tops, ([wide, clear(3)],), NoFit), (tops, ([wide, clear(2)],), TooMany),
        ]:
            self.refused(kind, ask, *handed)


class TestTheWhole(CompareCase):
    def pairs(self, seed, most=99):
        rng = random.Random(seed)
        for many, first, second in itertools.product((2, 3, 4), (1, 2, 3, 4), (1, 2, 3, 4)):
            one = a_glass(rng, many, first, most)
            for other in (a_glass(rng, many, second, most), dulled(one, a_dulling(rng, first, second, most)),
                          loosened(rng, one, 4)):
                yield one, other
                yield other, one

    def test_just_one_of_both(self):
        kinds = []
        rng = random.Random(800)
        for one, other in self.pairs(801):
            kinds.append(self.holds(one, other))
            if kinds[-1] == "dulls":
                # Then there is no decision in which one gains more by the other.
                for again in range(5):
                    payoffs = tuple(tuple(rng.randint(-9, 9) for act in range(3)) for stand in range(stands(one)))
                    self.assertLessEqual(gained(other, payoffs), gained(one, payoffs))
            else:
                # Then what the one dulls into isn't the other.
                dulling = a_dulling(rng, signs(one), signs(other), 4)
                self.assertNotEqual(dulled(one, dulling), other)
        self.assertGreater(kinds.count("dulls"), 50)
        self.assertGreater(kinds.count("decision"), 50)

    def test_alike_just_where_the_least_forms_are_the_same(self):
        told = []
        for one, other in self.pairs(802):
            told.append(compared(one, other)[0] == "dulls" and compared(other, one)[0] == "dulls")
            self.assertIs(alike(one, other), told[-1])
            self.assertIs(least(one)[0] == least(other)[0], told[-1])
        self.assertEqual(set(told), {True, False})

    def test_no_glass_with_fewer_signs_is_alike_to_a_least_form(self):
        for one, other in self.pairs(803):
            form = least(one)[0]
            if signs(other) < signs(form):
                self.assertIs(alike(form, other), False)
            self.assertIs(alike(form, one), True)

    def test_no_glass_gets_better(self):
        rng = random.Random(804)
        for one, other in self.pairs(805, 12):
            if compared(one, other)[0] != "dulls":
                continue
            self.dulls(one, dulled(other, a_dulling(rng, signs(other), rng.randint(1, 4), 12)))
            for i, j in itertools.combinations(range(signs(other)), 2):
                self.dulls(one, joined(other, i, j))
            some = sorted(rng.sample(range(stands(one)), 2))
            self.dulls(kept(one, some), kept(other, some))
            self.assertIs(held(kept(one, some), kept(other, some)), None)

    def test_beside_one_another(self):
        for one, other in self.pairs(806):
            if signs(one) * signs(other) > 4:
                continue
            both = beside(one, other)
            self.dulls(both, one)
            self.dulls(both, other)
            self.assertEqual(tops([both, one, other])[0], [0])

    def test_beliefs_have_the_weights_as_their_mean(self):
        rng = random.Random(807)
        for one, other in self.pairs(808):
            weights = tuple(rng.randint(1, 1000) for stand in range(stands(one)))
            rows = beliefs(one, weights)
            for stand, weight in enumerate(weights):
                mean = sum(number_of(part) * number_of(belief[stand]) for part, belief in rows)
                self.assertEqual(mean, Fraction(weight, sum(weights)))
            # The beliefs come by a glass, which is alike to the one they are of.
            back = glass_by(weights, rows)
            self.assertEqual(least(back)[0], least(one)[0])
            self.assertIs(alike(back, one), True)
            self.assertEqual(beliefs(back, weights), rows)

    def test_of_two_stands_by_the_curve(self):
        kinds = []
        for one, other in self.pairs(809):
            if stands(one) != 2:
                continue
            at_least = compared(one, other)[0] == "dulls"
            mine, told = wanted_curve(one), held(one, other)
            under = all(y <= wanted_height(mine, x) for x, y in wanted_curve(other))
            self.assertIs(told is None, at_least)
            self.assertIs(under, at_least)
            nowhere_below = not any(below(height(one, share(k, 24)), height(other, share(k, 24))) for k in range(25))
            self.assertTrue(nowhere_below or not at_least)
            if told:
                self.assertGreater(gained(other, told[1]), gained(one, told[1]))
                self.assertEqual([len(row) for row in told[1]], [2, 2])
            self.assertIs(curve(one) == curve(other), alike(one, other))
            kinds.append(at_least)
        self.assertEqual(set(kinds), {True, False})

    def test_shelves_of_the_like(self):
        for one, other in self.pairs(810):
            found, rows = tops([one, other])
            first, second = compared(one, other)[0] == "dulls", compared(other, one)[0] == "dulls"
            self.assertEqual(found, [0] if first else [1] if second else [0, 1])
            for number, by, dulling in rows:
                self.assertEqual(dulled([one, other][by], dulling), [one, other][number])


class TestByTheDeskAlone(unittest.TestCase):
    """The same by texts: what the desk tells is handed to it again, and read here by fractions at most."""

    def setUp(self):
        self.desk = Desk()

    def lay(self, one, other):
        self.desk.say("glass a " + one)
        self.desk.say("glass b " + other)

    def texts(self):
        for group in ((2, 1, 1), (2, 2, 2), (3, 2, 1), (2, 3, 1)):
            yield from itertools.product([written_table(glass) for glass in sorted(set(small_glasses(*group)))], repeat=2)
        yield from itertools.product(["1/2 1/2 0 | 0 1/3 2/3", "1 0 | 0 1", "1 | 1", "1/4 3/4 | 3/4 1/4", "0 1 | 1 0",
                                      "2/3 0 1/3 | 1/3 2/3 0", "1/4 1/4 1/4 1/4 | 1/8 3/8 1/4 1/4"], repeat=2)

    def best_by(self, name, payoffs):
        return Fraction(self.desk.say(f"best {name} {payoffs}").split(" ")[0])

    def at_least(self, one, other):
        """By the desk's answers, each of which shows by itself that it is so."""
        answer = self.desk.say(f"compare {one} {other}")
        by = self.desk.say(f"by {one} {other}")
        if answer == "dulls":
            self.assertEqual(self.desk.say(f"dull t {one} {by}"), "ok")
            self.assertEqual(self.desk.say("show t"), self.desk.say("show " + other))
            return True
        self.assertEqual(by, "no")
        word, payoffs = answer.split(" ", 1)
        self.assertEqual(word, "decision")
        self.assertGreater(self.best_by(other, payoffs), self.best_by(one, payoffs))
        return False

    def points(self, name):
        return [tuple(Fraction(number) for number in point.split(",")) for point in self.desk.say("curve " + name).split(" ")]

    def test_dulls_or_a_decision(self):
        kinds = []
        for pair in self.texts():
            self.lay(*pair)
            kinds.append(self.at_least("a", "b"))
        self.assertEqual(set(kinds), {True, False})

    def test_alike_just_where_the_least_forms_are_the_same(self):
        kinds = []
        for pair in self.texts():
            self.lay(*pair)
            self.desk.say("least la a")
            self.desk.say("least lb b")
            same = self.desk.say("show la") == self.desk.say("show lb")
            self.assertEqual(self.desk.say("alike a b"), "yes" if same else "no")
            self.assertIs(self.at_least("a", "b") and self.at_least("b", "a"), same)
            self.assertEqual(self.desk.say("alike a la"), "yes")
            kinds.append(same)
        self.assertEqual(set(kinds), {True, False})

    def test_beside_and_joined(self):
        for one, other in self.texts():
            self.lay(one, other)
            many = [len(text.split(" | ")[0].split(" ")) for text in (one, other)]
            if many[0] * many[1] <= 4:
                self.desk.say("beside c a b")
                self.assertTrue(self.at_least("c", "a"))
                self.assertTrue(self.at_least("c", "b"))
            for i, j in itertools.combinations(range(many[1]), 2):
                self.desk.say(f"join j b {i} {j}")
                self.assertTrue(self.at_least("b", "j"))
                self.assertTrue(self.at_least("a", "j") or not self.at_least("a", "b"))

    def test_of_two_stands_by_the_curve(self):
        kinds = []
        for pair in self.texts():
            if pair[0].count("|") != 1:
                continue
            self.lay(*pair)
            mine = self.points("a")
            above = [corner for corner in self.points("b") if corner[1] > wanted_height(mine, corner[0])]
            self.assertIs(self.at_least("a", "b"), not above)
            kinds.append(not above)
        self.assertEqual(set(kinds), {True, False})

    def test_what_is_shown_is_read_again(self):
        for pair in self.texts():
            self.lay(*pair)
            self.assertEqual(self.desk.say("show a"), pair[0])
            self.desk.say("glass c " + self.desk.say("show a"))
            self.assertEqual(self.desk.say("show c"), pair[0])
            self.assertEqual(self.desk.say("alike a c"), "yes")


if __name__ == "__main__":
    unittest.main()
