import copy
import itertools
import random
import unittest
from fractions import Fraction

from dullglass.compare import compared
from dullglass.curves import held
from dullglass.dulls import beside
from dullglass.errors import NoText
from dullglass.glasses import blind, clear, glass_of, is_dulling, is_glass
from dullglass.texts import read_dulling, read_glass, read_payoffs, show_glass, show_payoffs, show_share

from helpers import BIG, a_dulling, a_glass, fractions_of, small_glasses
from test_glasses import LONG, TableCase
from test_shares import Odd, strange

READERS = (read_glass, read_dulling, read_payoffs)
MILLION = 1000000

# Texts, and the glasses that they write.
GLASSES = [
    ("1/2 1/2 0 | 0 1/3 2/3", (6, ((3, 3, 0), (0, 2, 4)))),
    ("1 | 1", (1, ((1,), (1,)))),
    ("1 0 | 0 1", (1, ((1, 0), (0, 1)))),
    ("1 | 1 | 1 | 1", (1, ((1,), (1,), (1,), (1,)))),
    ("0 1 0 | 1 0 0 | 0 0 1", (1, ((0, 1, 0), (1, 0, 0), (0, 0, 1)))),
    ("1/4 3/4 | 1/2 1/2", (4, ((1, 3), (2, 2)))),
    ("1/999999 999998/999999 | 0 1", (BIG, ((1, BIG - 1), (0, BIG)))),
    ("1/999 998/999 | 1/1000 999/1000", (999000, ((1000, 998000), (999, 998001)))),
    (" ".join(["1/12"] * 12) + " | 1" + " 0" * 11, (12, ((1,) * 12, (12,) + (0,) * 11))),
]
# The same of dullings alone: one row, or more than four.
DULLINGS = [
    ("1", (1, ((1,),))),
    ("1/3 2/3", (3, ((1, 2),))),
    ("1 | 1 | 1 | 1 | 1", (1, ((1,),) * 5)),
    (" | ".join(["1/2 1/2"] * 12), (2, ((1, 1),) * 12)),
    (" | ".join([" ".join(["1/12"] * 12)] * 12), (12, ((1,) * 12,) * 12)),
]
PAYOFFS = [
    ("1 0 | -1 2", ((1, 0), (-1, 2))),
    ("0 | 0", ((0,), (0,))),
    ("5 | -7 | 12 | 10", ((5,), (-7,), (12,), (10,))),
    ("1000000 -1000000 | 999999 -999999", ((MILLION, -MILLION), (BIG, -BIG))),
    ("1 2 3 4 5 6 7 8 9 10 11 12 | " + " ".join(["0"] * 12), (tuple(range(1, 13)), (0,) * 12)),
    ("3 -2 100 | 0 0 0 | 20 30 -40", ((3, -2, 100), (0, 0, 0), (20, 30, -40))),
]

# Texts that write neither a glass nor a dulling; all of two rows but for one fault.
NO_TABLES = [
    # Shares not in lowest terms, or over 1.
    "2/4 1/2 | 1 0", "1/2 2/4 | 1 0", "1 0 | 3/6 1/2", "1/1 0 | 0 1", "1 0/1 | 0 1", "1 0/2 | 0 1", "2/2 0 | 0 1",
    "6/12 1/2 | 1 0", "1/2 500000/1000000 | 1 0",
    # A nought ahead.
    "01 0 | 0 1", "1 00 | 0 1", "01/2 1/2 | 1 0", "1/02 1/2 | 1 0", "001 0 | 1 0", "1 0 | 0 1/01", "1 -00 | 1 0",
    # A sign of the number too many.
    "1 -0 | 0 1", "-0 1 | 0 1", "+1 0 | 0 1", "1 +0 | 0 1", "1/+2 1/2 | 1 0", "+1/2 1/2 | 1 0", "--1 2 | 1 0",
    "-0/2 1 | 1 0", "1/-2 3/2 | 1 0", "-1/-2 1/2 | 1 0", "1/--2 1/2 | 1 0", "1- 0 | 0 1", "- 1 | 0 1", "-/2 1 | 1 0",
    # Shares below 0 or above 1.
    "-1 2 | 0 1", "2 -1 | 1 0", "3/2 -1/2 | 1 0", "-1/2 3/2 | 0 1", "1 0 | -1 2",
    # A bar of the share too many, or one without its numbers.
    "1/ 0 | 0 1", "/2 1/2 | 1 0", "1/2/1 1/2 | 1 0", "1//2 1/2 | 1 0", "/ 1 | 1 0", "1/2/ 1/2 | 1 0", "1/2/2 0 | 1 0",
    # A bottom of 0.
    "1/0 0 | 1 0", "0/0 1 | 1 0", "1 0/0 | 1 0", "-1/0 1 | 1 0", "1/00 1 | 1 0",
    # A blank more or less.
    " 1 0 | 0 1", "1 0 | 0 1 ", "1  0 | 0 1", "1 0  | 0 1", "1 0 |  0 1", "1 0 | 0  1", "10 | 01", "1 0 | 01",
    "1/2 1/2| 1 0", "1 /2 1/2 | 1 0", "1/ 2 1/2 | 1 0", "1/21/2 | 1 0", "- 1 2 | 1 0",
    # A bar without its blanks, too many of them, or one at an end.
    "1 0|0 1", "1 0 |0 1", "1 0| 0 1", "1 0 || 0 1", "1 0 | | 0 1", "1 0 |  | 0 1", "| 1 0 | 0 1", "1 0 | 0 1 |",
    " | 1 0 | 0 1", "1 0 | 0 1 | ", "1 0 | 0 1 | |", "|", " | ", "||", " || ", "1 | |", "1 0 / 0 1", "1 0 ! 0 1",
    # Rows of unlike lengths.
    "1 | 1 0", "1 0 | 1", "1/2 1/2 | 1", "1 0 0 | 0 1", "1 0 | 0 1 | 1", "1 0 | 0 1 0",
    # Rows that don't come to 1.
    "1 1 | 1 0", "1/2 1/3 | 1 0", "1 0 | 1/2 1/3", "0 0 | 1 0", "0 | 0", "2 | 2", "1/2 | 1/2", "1 0 | 1/2 1/2 | 1 1",
    "0 1/2 | 1/2 0", "1/2 1/2 | 1/3 1/3", "999999 | 999999",
    # Too many rows or signs.
    " | ".join(["1"] * 13), " | ".join(["1 0"] * 13), "1" + " 0" * 12 + " | 1" + " 0" * 12,
    " ".join(["1/13"] * 13) + " | " + " ".join(["1/13"] * 13), " | ".join(["1"] * 400), "1" + " 0" * 399 + " | 1",
    # Numbers of more than six figures, and a bottom of more than six.
    "1/1000000 999999/1000000 | 1 0", "1 0 | 1/1000000 999999/1000000", "1/1234567 1234566/1234567 | 1 0",
    "0000001 0 | 1 0", "1000000/1000001 1/1000001 | 1 0", "1/1000 999/1000 | 1/1001 1000/1001",
    "1/2 1/2 | 1/999999 999998/999999", "1/999983 999982/999983 | 1/999979 999978/999979",
    "1/" + "7" * 3000 + " 0 | 1 0", "7" * 3990 + " | 1",
    # Words that are no numbers.
    "", " ", "  ", "\n", "a", "a b | c d", "1 x | 0 1", "one zero | zero one", "0.5 0.5 | 1 0", "1. 0 | 0 1",
    "1e0 0 | 0 1", "1_0/20 1/2 | 1 0", "0x1 0 | 0 1", "1,0 | 0,1", "1\n0 | 0 1", "1 0\n| 0 1", "1 0 | 0 1\n",
    "\n1 0 | 0 1", "1 0 \n| 0 1", "1 0\n0 1", "1\t0 | 0 1", "(1, 0) | (0, 1)", "1 0 | 0 1;", "None", "True False | 0 1",
    "*", "~", "1 0 | 0 ~1",
]
# These write a dulling, but no glass.
NO_GLASSES = ["1", "1/2 1/2", "1 0 0", " | ".join(["1"] * 5), " | ".join(["1/2 1/2"] * 12), " | ".join(["1 0"] * 6)]
NO_PAYOFFS = [
    # A nought ahead, a sign too many, and shares.
    "01 0 | 0 1", "1 00 | 0 1", "1 -01 | 0 1", "-0 1 | 0 1", "1 0 | 0 -0", "+1 0 | 0 1", "--1 0 | 0 1", "1- 0 | 0 1",
    "- 0 | 0 1", "1/2 0 | 0 1", "1/1 0 | 0 1", "0/1 0 | 0 1", "1. 0 | 0 1", "1.0 0 | 0 1", "1_0 0 | 0 1", "1e3 0 | 0 1",
    # A blank more or less, and a bar without its blanks.
    " 1 0 | 0 1", "1 0 | 0 1 ", "1  0 | 0 1", "1 0  | 0 1", "1 0 |  0 1", "1 0|0 1", "1 0 |0 1", "1 0| 0 1", "1 0 || 0 1",
    "1 0 | | 0 1", "| 1 0 | 0 1", "1 0 | 0 1 |", " | 1 0 | 0 1", "1 0 | 0 1 | ", "- 1 0 | 0 1", "|", " | ", "1 | ",
    # Rows of unlike lengths, too few or too many rows or acts.
    "1 | 1 0", "1 0 | 1", "1 0 | 0 1 | 1", "1 0 | 0 1 0", "1", "1 0", "-5 7 3", " | ".join(["1"] * 5),
    " | ".join(["1 2"] * 12), " | ".join(["0"] * 400), " ".join(["1"] * 13) + " | " + " ".join(["1"] * 13),
    "1" + " 0" * 12 + " | 1", " ".join(["1"] * 400) + " | " + " ".join(["1"] * 400),
    # Beyond a million either way.
    "1000001 0 | 0 1", "0 0 | 0 -1000001", "1000000 0 | 0 1000001", "10000000 0 | 0 1", "-9999999 0 | 0 1",
    "1" + "0" * 3000 + " | 1", "0000001 | 1", "0 | -" + "9" * 59,
    # Words that are no numbers.
    "", " ", "\n", "a b | c d", "1 x | 0 1", "1\n0 | 0 1", "1 0 | 0 1\n", "\n1 0 | 0 1", "1\t0 | 0 1", "None | 1", "1,0 | 0,1",
]


def written(number):
    """A fraction as the document writes it."""
    return str(number.numerator) if number.denominator == 1 else f"{number.numerator}/{number.denominator}"


def written_table(table):
    return " | ".join(" ".join(written(number) for number in row) for row in fractions_of(table))


def written_payoffs(payoffs):
    return " | ".join(" ".join(str(number) for number in row) for row in payoffs)


def some_payoffs(rng, stands, acts):
    return tuple(tuple(rng.choice([0, 1, -1, MILLION, -MILLION, rng.randint(-MILLION, MILLION)]) for act in range(acts))
                 for stand in range(stands))


class TestShown(TableCase):
    def test_shares(self):
        for one, text in [((0, 1), "0"), ((1, 1), "1"), ((-1, 1), "-1"), ((1, 2), "1/2"), ((-1, 2), "-1/2"),
                          ((7, 3), "7/3"), ((-10, 7), "-10/7"), ((100, 1), "100"), ((1, 100), "1/100"),
                          ((BIG, MILLION), "999999/1000000"), ((-LONG, 1), "-" + "9" * 60),
                          ((LONG, LONG + 1), "9" * 60 + "/1" + "0" * 60)]:
            self.assertEqual(show_share(one), text)
            self.assertIs(type(show_share(one)), str)

    def test_glasses_and_dullings(self):
        for text, table in GLASSES + DULLINGS:
            before = copy.deepcopy(table)
            self.assertEqual(show_glass(table), text)
            self.assertEqual(table, before)
        self.assertEqual(show_glass(clear(3)), "1 0 0 | 0 1 0 | 0 0 1")
        self.assertEqual(show_glass(blind(2)), "1 | 1")

    def test_payoffs(self):
        for text, payoffs in PAYOFFS:
            before = copy.deepcopy(payoffs)
            self.assertEqual(show_payoffs(payoffs), text)
            self.assertEqual(payoffs, before)

    def test_long_numbers(self):
        glass = glass_of(LONG, [[LONG - 1, 1], [0, LONG]])
        self.assertEqual(show_glass(glass), "9" * 59 + "8/" + "9" * 60 + " 1/" + "9" * 60 + " | 0 1")
        self.assertEqual(show_payoffs(((LONG, -LONG), (0, LONG ** 20))),
                         "9" * 60 + " -" + "9" * 60 + " | 0 " + str(LONG ** 20))
        longest = 10 ** 4000 - 1
        self.assertEqual(show_share((longest, 1)), "9" * 4000)
        self.assertEqual(show_share((-1, longest)), "-1/" + "9" * 4000)


class TestRead(TableCase):
    def test_glasses(self):
        for text, glass in GLASSES:
            told = read_glass(text)
            self.assertEqual(told, glass)
            self.is_lowest(told)
            self.assertIs(is_glass(told), True)
            self.assertEqual(read_dulling(text), glass)

    def test_dullings(self):
        for text, dulling in DULLINGS:
            told = read_dulling(text)
            self.assertEqual(told, dulling)
            self.is_lowest(told)
            self.assertIs(is_dulling(told), True)
            self.refused(NoText, read_glass, text)

    def test_payoffs(self):
        for text, payoffs in PAYOFFS:
            told = read_payoffs(text)
            self.assertEqual(told, payoffs)
            self.assertIs(type(told), tuple)
            for row in told:
                self.assertIs(type(row), tuple)
                self.assertEqual({type(number) for number in row}, {int})

    def test_the_same_bottom_over_and_over(self):
        # However many shares there are, it is the least bottom of all that counts.
        self.assertEqual(read_glass("1/500000 499999/500000 | 1/250000 249999/250000")[0], 500000)
        self.assertEqual(read_glass("1/3 1/3 1/3 | 1/9 1/27 23/27")[0], 27)

    def test_no_glass_and_no_dulling(self):
        for text in NO_TABLES:
            self.refused(NoText, read_glass, text)
            self.refused(NoText, read_dulling, text)

    def test_no_glass(self):
        for text in NO_GLASSES:
            self.refused(NoText, read_glass, text)
            self.assertEqual(show_glass(read_dulling(text)), text)

    def test_no_payoffs(self):
        for text in NO_PAYOFFS:
            self.refused(NoText, read_payoffs, text)

    def test_no_text(self):
        things = [thing for thing in strange() if not isinstance(thing, str)]
        for thing in things + [0, 1, LONG, clear(2), ["1 | 1"], ("1 | 1",), b"1 | 1", {"1 | 1": 1}, ((1,), (1,)), Odd()]:
            for read in READERS:
                self.refused(NoText, read, thing)

    def test_figures_of_other_writings(self):
        # Signs that Python's int takes for figures, or that it leaves out.
        for one in ("\u0661", "\uff11", "\u00b9", "\u00bd", "1\u00a0", "\u20031", "1\x0b", "1\r"):
            for text in (f"{one} 0 | 0 1", f"{one} | 1", f"1/{one} 0 | 0 1"):
                for read in READERS:
                    self.refused(NoText, read, text)

    def test_long_texts(self):
        for text in ("1 " * 2000, "1 | " * 1000, " | ".join(["1/2 1/2"] * 400), "|" * 4000, " " * 4000, "/" * 4000,
                     "-" * 4000, "9" * 4000, "9" * 5000, "1/" + "3" * 5000, "0" * 4000,
                     " ".join(f"1/{number}" for number in range(999700, 999999)) + " | 1"):
            for read in READERS:
                self.refused(NoText, read, text)


class TestThereAndBack(TableCase):
    def test_small_ones_all(self):
        for group in ((2, 1, 1), (2, 2, 6), (2, 3, 4), (2, 4, 2), (3, 2, 3), (4, 2, 2), (4, 3, 1)):
            for glass in set(small_glasses(*group)):
                text = show_glass(glass)
                self.assertEqual(text, written_table(glass))
                self.assertEqual(read_glass(text), glass)

    def test_any_glasses(self):
        rng = random.Random(600)
        for many, wide, again in itertools.product((2, 3, 4), range(1, 13), range(4)):
            glass = a_glass(rng, many, wide)
            self.assertEqual(show_glass(glass), written_table(glass))
            self.assertEqual(read_glass(show_glass(glass)), glass)

    def test_any_dullings(self):
        rng = random.Random(601)
        for old, new, again in itertools.product(range(1, 13), range(1, 13), range(2)):
            dulling = a_dulling(rng, old, new)
            self.assertEqual(show_glass(dulling), written_table(dulling))
            self.assertEqual(read_dulling(show_glass(dulling)), dulling)

    def test_any_payoffs(self):
        rng = random.Random(602)
        for many, wide, again in itertools.product((2, 3, 4), range(1, 13), range(4)):
            payoffs = some_payoffs(rng, many, wide)
            self.assertEqual(show_payoffs(payoffs), written_payoffs(payoffs))
            self.assertEqual(read_payoffs(show_payoffs(payoffs)), payoffs)

    def test_what_was_compared(self):
        rng = random.Random(603)
        for many, again in itertools.product((2, 3, 4), range(6)):
            one, other = a_glass(rng, many, 3, 6), a_glass(rng, many, 2, 6)
            kind, told = compared(one, other)
            if kind == "decision" and max(abs(number) for row in told for number in row) <= MILLION:
                self.assertEqual(read_payoffs(show_payoffs(told)), told)
            if kind == "dulls" and told[0] <= BIG:
                self.assertEqual(read_dulling(show_glass(told)), told)

    def test_what_was_held(self):
        corner, payoffs = held(glass_of(6, [[3, 3, 0], [0, 2, 4]]), clear(2))
        self.assertEqual(read_payoffs(show_payoffs(payoffs)), payoffs)

    def test_greater_ones_are_shown_but_not_read(self):
        glass = glass_of(BIG, [[1, BIG - 1], [BIG, 0]])
        both = beside(glass, glass_of(BIG - 1, [[1, BIG - 2], [BIG - 1, 0]]))
        self.assertEqual(show_glass(both), written_table(both))
        self.refused(NoText, read_glass, show_glass(both))
        self.refused(NoText, read_dulling, show_glass(both))
        for number in (MILLION + 1, -MILLION - 1, LONG):
            payoffs = ((0, number), (1, 1))
            self.assertEqual(show_payoffs(payoffs), f"0 {number} | 1 1")
            self.refused(NoText, read_payoffs, show_payoffs(payoffs))

    def test_the_edge_of_six_figures(self):
        for bottom, is_read in ((BIG, True), (MILLION, False), (MILLION + 1, False)):
            text = show_glass((bottom, ((1, bottom - 1), (0, bottom))))
            for read in (read_glass, read_dulling):
                if is_read:
                    self.assertEqual(read(text), (bottom, ((1, bottom - 1), (0, bottom))))
                else:
                    self.refused(NoText, read, text)

    def test_a_bottom_of_seven_figures_of_short_shares(self):
        # 999 * 1000 has six figures, 1000 * 1001 and 64 * 15625 have seven.
        self.assertEqual(read_glass("1/999 998/999 | 1/1000 999/1000")[0], 999000)
        for read in (read_glass, read_dulling):
            self.refused(NoText, read, "1/1001 1000/1001 | 1/1000 999/1000")
            self.refused(NoText, read, "1/64 63/64 | 1/15625 15624/15625")
            self.refused(NoText, read, "1/2 1/2 | 1/3 2/3 | 1/500009 500008/500009")

    def test_each_other_text_is_read_as_none_or_shown_as_it_is(self):
        # Every text near a right one, a sign put in, left out or changed: what is read is shown as just that text.
        signs = "0129/-| \n+"
        for text in ("1/2 1/2 | 0 1", "1 | 1", "-10 2 | 0 1", "1/3 2/3"):
            near = {text[:k] + sign + text[k:] for k in range(len(text) + 1) for sign in signs}
            near |= {text[:k] + sign + text[k + 1:] for k in range(len(text)) for sign in signs}
            near |= {text[:k] + text[k + 1:] for k in range(len(text))}
            for other, (read, show) in itertools.product(
                    sorted(near), [(read_glass, show_glass), (read_dulling, show_glass), (read_payoffs, show_payoffs)]):
                try:
                    told = read(other)
                except NoText:
                    continue
                self.assertEqual(show(told), other)

    def test_all_short_texts(self):
        # Of all texts of up to six of these signs, just those that write a glass are read.
        found = []
        for long in range(7):
            for text in itertools.product("01 |/2", repeat=long):
                try:
                    found.append(show_glass(read_glass("".join(text))))
                except NoText:
                    continue
                self.assertEqual(found[-1], "".join(text))
        self.assertEqual(found, ["1 | 1"])

    def test_shares_as_fractions(self):
        for top, bottom in itertools.product(range(-12, 13), range(1, 13)):
            one = Fraction(top, bottom)
            self.assertEqual(show_share((one.numerator, one.denominator)), written(one))
            self.assertEqual(Fraction(show_share((one.numerator, one.denominator))), one)


if __name__ == "__main__":
    unittest.main()
