import itertools
import random
import unittest

from dullglass.compare import alike, compared
from dullglass.curves import curve
from dullglass.decisions import best
from dullglass.desk import Desk
from dullglass.dulls import beside, dulled, joined
from dullglass.errors import Full, NoFit, NoName, NoRow, NoText, TooMany
from dullglass.glasses import glass_of, signs
from dullglass.least import least
from dullglass.texts import read_glass, read_payoffs, show_glass, show_payoffs, show_share

from helpers import a_dulling, a_glass
from test_glasses import TableCase
from test_shares import strange

# The twenty names of a full desk.
NAMES = [first + second for first in "abcd" for second in "vwxyz"]
EYE = "1/2 1/2 0 | 0 1/3 2/3"
GLASSES = {"eye": EYE, "c": "1 0 | 0 1", "d": "1 | 1", "three": "1 0 0 | 0 1 0 | 0 0 1",
           "wide": "1/5 1/5 1/5 1/5 1/5 | 1 0 0 0 0"}
FIRST_WORDS = ["glass", "dull", "beside", "join", "least", "show", "best", "compare", "by", "alike", "curve"]
# Rows of each kind that are answered by the desk below.
GOOD = ["glass n 1 | 1", "dull n eye 1 | 1 | 1", "beside n eye c", "join n eye 0 1", "least n eye", "show eye",
        "best eye 1 0 | -1 2", "compare c eye", "by c eye", "alike c eye", "curve eye"]


def a_desk():
    desk = Desk()
    for name, text in GLASSES.items():
        desk.say(f"glass {name} {text}")
    return desk


def full_desk():
    desk = Desk()
    for name in NAMES:
        desk.say(f"glass {name} {EYE}")
    return desk


def shown(desk, names):
    """What stands by these names; None where nothing does."""
    found = []
    for name in names:
        try:
            found.append(desk.say("show " + name))
        except NoName:
            found.append(None)
    return found


class DeskCase(TableCase):
    def setUp(self):
        self.desk = a_desk()

    def told(self, row, wanted):
        answer = self.desk.say(row)
        self.assertIs(type(answer), str)
        self.assertEqual(answer, wanted, row)

    def turned_away(self, kind, row, desk=None):
        """Refused so, and nothing that stood there is another one, or is new."""
        desk = desk or self.desk
        names = list(GLASSES) + NAMES + ["n", "new", "a", "b"]
        before = shown(desk, names)
        self.refused(kind, desk.say, row)
        self.assertEqual(shown(desk, names), before)


class TestAnswered(DeskCase):
    def test_glass_and_show(self):
        for name, text in [("n", EYE), ("a", "1 | 1"), ("abcdefgh", "0 1 | 1 0 | 1/2 1/2"), ("zzzzzzzz", "1 | 1 | 1 | 1"),
                           ("glass", "1 | 1"), ("show", "1 0 | 1 0"), ("eye", "1/3 2/3 | 0 1")]:
            self.told(f"glass {name} {text}", "ok")
            self.told(f"show {name}", text)

    def test_dull(self):
        self.told("dull n eye 1/2 1/2 | 1 0 | 0 1", "ok")
        self.told("show n", "3/4 1/4 | 1/3 2/3")
        self.told("dull n n 1 | 1", "ok")
        self.told("show n", "1 | 1")
        self.told("show eye", EYE)
        self.told("dull m wide " + " | ".join(["1"] * 5), "ok")
        self.told("show m", "1 | 1")
        self.told("dull m d 1/3 2/3", "ok")
        self.told("show m", "1/3 2/3 | 1/3 2/3")

    def test_beside(self):
        self.told("beside n eye c", "ok")
        self.told("show n", "1/2 0 1/2 0 0 0 | 0 0 0 1/3 0 2/3")
        self.told("beside n c eye", "ok")
        self.told("show n", "1/2 1/2 0 0 0 0 | 0 0 0 0 1/3 2/3")
        self.told("beside c c c", "ok")
        self.told("show c", "1 0 0 0 | 0 0 0 1")

    def test_join(self):
        self.told("join n eye 0 2", "ok")
        self.told("show n", "1/2 1/2 | 2/3 1/3")
        self.told("join eye eye 1 2", "ok")
        self.told("show eye", "1/2 1/2 | 0 1")

    def test_least(self):
        self.told("glass n 1/4 1/2 1/4 0 | 1/4 1/2 1/4 0", "ok")
        self.told("least m n", "ok")
        self.told("show m", "1 | 1")
        self.told("show n", "1/4 1/2 1/4 0 | 1/4 1/2 1/4 0")
        self.told("least eye eye", "ok")
        self.told("show eye", "0 1/2 1/2 | 2/3 0 1/3")

    def test_best(self):
        self.told("best eye 1 0 | -1 2", "5/2 0 1 1")
        self.told("best c 1 0 | -1 2", "3 0 1")
        self.told("best d 1 0 | -1 2", "2 1")
        self.told("best d -3 | -4", "-7 0")
        self.told("best eye -1 -2 | -1 -3", "-2 0 0 0")
        self.told("best three 1 0 0 | 0 1 0 | 0 0 1", "3 0 1 2")
        self.told("best d 1000000 | -1000000", "0 0")
        self.told("glass t 1/3 2/3 | 1 0", "ok")
        self.told("best t -1 0 | 0 -1", "-1/3 0 1")

    def test_best_with_two_figures(self):
        self.told("best d " + "0 " * 11 + "1 | " + " ".join(["0"] * 12), "1 11")

    def test_compare_by_and_alike(self):
        self.told("compare c eye", "dulls")
        self.told("by c eye", EYE)
        self.told("by eye c", "no")
        self.told("by eye d", "1 | 1 | 1")
        self.told("alike c eye", "no")
        self.told("alike eye c", "no")
        self.told("alike eye eye", "yes")
        self.told("compare eye eye", "dulls")
        self.told("glass n 0 1/2 1/2 | 2/3 1/3 0", "ok")
        self.told("alike n eye", "yes")
        answer = self.desk.say("compare eye c")
        self.assertTrue(answer.startswith("decision "))
        payoffs = read_payoffs(answer[len("decision "):])
        self.assertEqual([len(row) for row in payoffs], [2, 2])
        self.assertEqual(("decision", payoffs), compared(read_glass(EYE), glass_of(1, [[1, 0], [0, 1]])))

    def test_curve(self):
        self.told("curve eye", "0,0 0,2/3 1/2,1 1,1")
        self.told("curve c", "0,0 0,1 1,1")
        self.told("curve d", "0,0 1,1")
        self.told("curve wide", "0,0 1/5,1 1,1")

    def test_as_the_functions_tell(self):
        rng = random.Random(700)
        desk = Desk()
        for many, again in itertools.product((2, 3, 4), range(12)):
            one, other = a_glass(rng, many, rng.randint(1, 4), 999), a_glass(rng, many, rng.randint(1, 3), 999)
            dulling = a_dulling(rng, signs(one), rng.randint(1, 12))
            payoffs = tuple(tuple(rng.randint(-1000000, 1000000) for act in range(3)) for stand in range(many))
            self.as_told(desk, one, other, dulling, payoffs)

    def as_told(self, desk, one, other, dulling, payoffs):
        made = [("a", f"glass a {show_glass(one)}", one), ("b", f"glass b {show_glass(other)}", other),
                ("d", f"dull d a {show_glass(dulling)}", dulled(one, dulling)),
                ("e", "beside e a b", beside(one, other)), ("l", "least l e", least(beside(one, other))[0])]
        if signs(one) > 1:
            made.append(("j", f"join j a 0 {signs(one) - 1}", joined(one, 0, signs(one) - 1)))
        for name, row, glass in made:
            self.assertEqual(desk.say(row), "ok")
            self.assertEqual(desk.say("show " + name), show_glass(glass))
        kind, told = compared(one, other)
        gained, plan = best(one, payoffs)
        self.assertEqual(desk.say(f"best a {show_payoffs(payoffs)}"),
                         show_share(gained) + "".join(f" {act}" for act in plan))
        self.assertEqual(desk.say("compare a b"), "dulls" if kind == "dulls" else "decision " + show_payoffs(told))
        self.assertEqual(desk.say("by a b"), show_glass(told) if kind == "dulls" else "no")
        self.assertEqual(desk.say("alike a b"), "yes" if alike(one, other) else "no")
        if len(one[1]) == 2:
            points = [show_share(x) + "," + show_share(y) for x, y in curve(one)]
            self.assertEqual(desk.say("curve a"), " ".join(points))

    def test_long_numbers_are_shown(self):
        self.told("glass n 1/999999 999998/999999 | 0 1", "ok")
        self.told("dull n n 1/999998 999997/999998 | 1 0", "ok")
        glass = dulled(glass_of(999999, [[1, 999998], [0, 999999]]), (999998, ((1, 999997), (999998, 0))))
        self.told("show n", show_glass(glass))


class TestNames(DeskCase):
    def test_an_old_name(self):
        self.told("glass eye 1 | 1", "ok")
        self.told("show eye", "1 | 1")
        for row, text in [("dull c c 0 1 | 1 0", "0 1 | 1 0"), ("beside c c c", "0 0 0 1 | 1 0 0 0"),
                          ("join c c 1 2", "0 0 1 | 1 0 0"), ("least c c", "0 1 | 1 0")]:
            self.told(row, "ok")
            self.told("show c", text)

    def test_a_glass_that_comes_of_one_stays(self):
        self.told("join n eye 0 1", "ok")
        self.told("glass eye 1 | 1", "ok")
        self.told("show n", "1 0 | 1/3 2/3")

    def test_words_that_are_rows(self):
        for word in FIRST_WORDS + ["ok", "dulls", "no"]:
            self.told(f"glass {word} 1 | 1", "ok")
            self.told(f"show {word}", "1 | 1")
            self.told(f"beside {word} {word} {word}", "ok")

    def test_two_desks(self):
        one, other = Desk(), Desk()
        self.assertEqual(one.say("glass a 1 | 1"), "ok")
        self.turned_away(NoName, "show a", other)
        self.assertEqual(other.say("glass a 1 0 | 0 1"), "ok")
        self.assertEqual(one.say("show a"), "1 | 1")
        self.assertEqual(other.say("show a"), "1 0 | 0 1")
        one.say("glass b 1 | 1")
        self.turned_away(NoName, "show b", other)
        self.refused(NoName, Desk().say, "show a")

    def test_twenty_names_and_one_more(self):
        desk = full_desk()
        for name in NAMES:
            self.assertEqual(desk.say("show " + name), EYE)
        for row in ("glass n 1 | 1", "dull n av 1 | 1 | 1", "beside n av aw", "join n av 0 1", "least n av"):
            self.turned_away(Full, row, desk)
        self.assertEqual(desk.say("glass dz 1 | 1"), "ok")
        self.assertEqual(desk.say("beside av dz dz"), "ok")
        self.assertEqual(desk.say("show av"), "1 | 1")
        self.turned_away(Full, "glass n 1 | 1", desk)

    def test_the_twentieth_name(self):
        desk = Desk()
        for name in NAMES[:19]:
            desk.say(f"glass {name} 1 | 1")
        self.turned_away(NoText, "glass n 1", desk)
        self.turned_away(NoName, "least n m", desk)
        self.turned_away(NoFit, "join n av 0 1", desk)
        self.assertEqual(desk.say("least n av"), "ok")
        self.turned_away(Full, "least m av", desk)
        self.assertEqual(desk.say("least n av"), "ok")

    def test_twenty_rows_that_are_refused_leave_room(self):
        desk = Desk()
        for again in range(30):
            for name in NAMES:
                self.refused(NoText, desk.say, f"glass {name} 1")
        self.assertEqual(desk.say("glass n 1 | 1"), "ok")


class TestNoRow(DeskCase):
    def test_another_first_word(self):
        for row in ["", " ", "  ", "\n", "x", "shows eye", "sho eye", "Show eye", "SHOW eye", " show eye", "show\neye",
                    "\nshow eye", "showeye", "eye", "glas n 1 | 1", "glass\tn 1 | 1", "ok", "dulls c eye", "tops c eye",
                    "mixed n c eye", "join\n n eye 0 1", "curve, eye", "new name number", "0", "height eye 1/2",
                    "held c eye", "payoffs 1 | 1", "beside: n c c", "bye c eye", "b y", "alike\n eye eye"]:
            self.turned_away(NoRow, row)

    def test_too_few_words(self):
        for row in FIRST_WORDS:
            self.turned_away(NoRow, row)
        for row in ["glass n", "dull n", "dull n eye", "beside n", "beside n eye", "join n", "join n eye",
                    "join n eye 0", "least n", "best eye", "compare c", "by c", "alike c", "glass", "dull nope nope"]:
            self.turned_away(NoRow, row)

    def test_too_many_words(self):
        for row in ["beside n eye c c", "join n eye 0 1 2", "least n eye eye", "show eye eye", "compare c eye c",
                    "by c eye eye", "alike c eye c", "curve eye eye", "show nope nope", "beside n nope nope nope"]:
            self.turned_away(NoRow, row)

    def test_a_blank_more_or_less(self):
        for row in ["beside n eye c ", "join n eye 0 1 ", "least n eye ", "show eye ", "compare c eye ", "by c eye ",
                    "alike c eye ", "curve eye ", "beside n eye  c", "join n eye 0  1", "least n  eye", "show  eye",
                    "compare c  eye", "by  c eye", "alike c  eye", "curve  eye", "glass  n 1 | 1", "dull  n eye 1 | 1 | 1",
                    "least  eye", "beside  eye c", "join  eye 0 1", "show  ", "curve  ", "least ", "join n eye 0 ",
                    "join n eye  1", "glass  1 | 1", "glass  ", "dull  eye 1 | 1 | 1"]:
            self.turned_away(NoRow, row)

    def test_a_new_name_that_is_no_such_word(self):
        for name in ["A", "N", "aB", "a1", "1", "0", "abcdefghi", "abcdefghij", "a" * 400, "a-b", "a_b", "_", "-", "a.",
                     "|", "1/2", "a\n", "\na", "a\nb", "~", "n,", "\u00e9", "\u00aa", "\u0430", "\u00df", "\uff41", "n\t",
                     "n\u00a0", ""]:
            for row in (f"glass {name} 1 | 1", f"dull {name} eye 1 | 1 | 1", f"beside {name} eye c",
                        f"join {name} eye 0 1", f"least {name} eye"):
                self.turned_away(NoRow, row)

    def test_a_number_not_written_so(self):
        for number in ["x", "", "00", "01", "-0", "-01", "+1", "--1", "1-", "-", "1.0", "1/1", "0/1", "1_0", "1e1", "0x1",
                       "1000000", "-1000000", "1234567", "0000001", "1" * 400, "1\n", "\n1", "\u0661", "\u00b2", "\uff11",
                       "1,", "|", "None"]:
            self.turned_away(NoRow, f"join n eye {number} 1")
            self.turned_away(NoRow, f"join n eye 0 {number}")
            self.turned_away(NoRow, f"join n nope 0 {number}")

    def test_no_text(self):
        for thing in strange():
            if not isinstance(thing, str):
                self.turned_away(NoRow, thing)
        for thing in [0, 1, b"show eye", ["show", "eye"], ("show", "eye"), {"show": "eye"}, [], ["show eye"], ("show eye",)]:
            self.turned_away(NoRow, thing)

    def test_ahead_of_all_others(self):
        full = full_desk()
        for row in ["glass N", "glass N 1", "dull N nope 1", "beside N nope nope", "join N nope 0 1", "join n nope x 1",
                    "join n av 0 1000000", "least N nope", "least new nope av", "show nope nope", "best nope",
                    "compare nope", "by nope", "alike nope nope nope", "curve nope nope", "dull toolongname av x"]:
            self.turned_away(NoRow, row, full)
            self.turned_away(NoRow, row)


class TestNoName(DeskCase):
    def test_no_glass_stands_by_it(self):
        for name in ["nope", "ey", "eyes", "Eye", "EYE", "", "1", "eye\n", "\neye", "a" * 400, "eye,", "|", "\u00e9", "0/1"]:
            for row in (f"dull n {name} 1 | 1 | 1", f"beside n {name} c", f"beside n c {name}", f"join n {name} 0 1",
                        f"least n {name}", f"show {name}", f"best {name} 1 0 | -1 2", f"compare {name} c",
                        f"compare c {name}", f"by {name} c", f"by c {name}", f"alike {name} c", f"alike c {name}",
                        f"curve {name}"):
                self.turned_away(NoName, row)

    def test_the_new_name_stands_for_nothing_yet(self):
        self.turned_away(NoName, "beside n n n")
        self.turned_away(NoName, "least n n")
        self.turned_away(NoName, "join n n 0 1")
        self.turned_away(NoName, "dull n n 1 | 1")
        self.turned_away(NoName, "beside n c n")

    def test_words_without_signs(self):
        for row in ["show ", "curve ", "least n ", "compare  c", "compare c ", "by  ", "alike  eye", "beside n  c",
                    "beside n c ", "beside n  ", "join n  0 1", "best  1 | 1", "best  ", "dull n  1 | 1", "dull n  "]:
            self.turned_away(NoName, row)

    def test_ahead_of_the_text(self):
        for row in ["best nope 1", "best nope ", "best nope x", "dull n nope 1/", "dull n nope ", "dull n nope x"]:
            self.turned_away(NoName, row)

    def test_ahead_of_full_and_of_what_the_stages_tell(self):
        full = full_desk()
        for row in ["beside n nope av", "beside n av nope", "least n nope", "join n nope 0 1", "join n nope 5 5",
                    "dull n nope 1 | 1", "dull n nope 1"]:
            self.turned_away(NoName, row, full)
        self.turned_away(NoName, "compare three nope")
        self.turned_away(NoName, "alike nope wide")
        self.turned_away(NoName, "join n nope -1 -1")


class TestNoText(DeskCase):
    def test_the_text_writes_none(self):
        for text in ["", " ", "x", "1", "1 |", "1 | 1 ", " 1 | 1", "1  | 1", "1|1", "2/4 1/2 | 1 0", "1 0 | 1", "01 | 1",
                     "1\n", "1 | 1\n", "-0 1 | 1 0", "1/1000000 999999/1000000 | 1 0", " | ".join(["1"] * 5)]:
            self.turned_away(NoText, f"glass n {text}")
            self.turned_away(NoText, f"glass eye {text}")
            self.turned_away(NoText, f"best d {text}")
        for text in ["", " ", "x", "1 |", "1 | 1 ", " 1 | 1", "1|1", "2/4 1/2", "1 0 | 1", "01", "1\n", "-1 2", "1 | 1 | 2",
                     " | ".join(["1"] * 13)]:
            self.turned_away(NoText, f"dull n d {text}")
            self.turned_away(NoText, f"dull eye d {text}")
        for text in ["1/2 | 1", "1000001 | 0", "0 | -1000001", "1 | 2 | 3 | 4 | 5", "+1 | 0"]:
            self.turned_away(NoText, f"best d {text}")

    def test_nothing_behind_the_blank(self):
        for row in ("glass n ", "dull n eye ", "best eye "):
            self.turned_away(NoText, row)
            self.turned_away(NoRow, row[:-1])

    def test_two_blanks_ahead_of_the_text(self):
        for row in ("glass n  1 | 1", "dull n eye  1 | 1 | 1", "best eye  1 0 | -1 2"):
            self.turned_away(NoText, row)

    def test_a_text_of_another_kind(self):
        self.turned_away(NoText, "glass n 5 | 6")
        self.turned_away(NoText, "glass n 1/2 1/2")
        self.turned_away(NoText, "best eye 1/2 1/2 | 1 0")
        self.turned_away(NoText, "dull n c 2 0 | 0 2")

    def test_ahead_of_full(self):
        full = full_desk()
        for row in ("glass n 1", "glass n ", "dull n av x", "dull n av "):
            self.turned_away(NoText, row, full)


class TestAsTheStagesTell(DeskCase):
    def test_no_fit(self):
        for row in ["dull n eye 1 | 1", "dull n eye 1", "dull eye eye 1 | 1 | 1 | 1", "beside n eye three",
                    "beside eye three eye", "join n eye 0 0", "join n eye 1 0", "join n eye 0 3", "join n eye -1 1",
                    "join n eye -2 -1", "join n eye 0 999999", "join n eye -999999 0", "join n d 0 1",
                    "best eye 1 | 1 | 1", "best three 1 | 1", "compare eye three", "compare three eye", "by c three",
                    "alike three c", "curve three", "compare wide three", "by three wide", "alike wide three"]:
            self.turned_away(NoFit, row)

    def test_too_many(self):
        self.turned_away(TooMany, "beside n wide eye")
        self.turned_away(TooMany, "beside wide wide wide")
        for word in ("compare", "by", "alike"):
            self.turned_away(TooMany, f"{word} wide c")
            self.turned_away(TooMany, f"{word} c wide")

    def test_full_goes_ahead(self):
        full = full_desk()
        for row in ["dull n av 1 | 1", "join n av 1 0", "join n av -1 5"]:
            self.turned_away(Full, row, full)
        full.say("glass av 1 0 0 | 0 1 0 | 0 0 1")
        full.say("glass aw 1/5 1/5 1/5 1/5 1/5 | 1 0 0 0 0")
        self.turned_away(Full, "beside n av aw", full)
        self.turned_away(Full, "beside n aw aw", full)
        # By an old name there is room.
        self.turned_away(NoFit, "beside ax av aw", full)
        self.turned_away(TooMany, "beside ax aw aw", full)

    def test_an_old_name_stays_as_it_was(self):
        self.turned_away(NoFit, "join eye eye 2 1")
        self.turned_away(TooMany, "beside eye wide eye")
        self.told("show eye", EYE)


class TestNothingChanged(DeskCase):
    def test_asking_changes_nothing(self):
        names = list(GLASSES)
        before = shown(self.desk, names)
        rows = [row for row in GOOD if row.split(" ")[1] != "n"]
        told = [self.desk.say(row) for row in rows]
        self.assertEqual([self.desk.say(row) for row in rows], told)
        self.assertEqual([self.desk.say(row) for row in reversed(rows)], told[::-1])
        self.assertEqual(shown(self.desk, names), before)

    def test_each_good_row_is_answered(self):
        self.assertEqual([row.split(" ")[0] for row in GOOD], FIRST_WORDS)
        for row in GOOD:
            self.assertIs(type(self.desk.say(row)), str)

    def test_on_another_desk_the_same(self):
        other = a_desk()
        for row in GOOD:
            self.assertEqual(self.desk.say(row), other.say(row))


if __name__ == "__main__":
    unittest.main()
