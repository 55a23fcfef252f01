"""A desk that keeps glasses by names, and is told rows of words."""

from dullglass.compare import alike, compared
from dullglass.curves import curve
from dullglass.decisions import best
from dullglass.dulls import beside, dulled, joined
from dullglass.errors import Full, NoName, NoRow
from dullglass.least import least
from dullglass.texts import MOST_FIGURES, is_made_of, is_number, read_dulling, read_glass, read_payoffs
from dullglass.texts import show_glass, show_payoffs, show_share

LETTERS = "abcdefghijklmnopqrstuvwxyz"
MOST_LETTERS = 8
MOST_NAMES = 20
TEXTS = ("glass", "dulling", "payoffs")
# What follows the first word.
FORMS = {
    "glass": ("new", "glass"),
    "dull": ("new", "name", "dulling"),
    "beside": ("new", "name", "name"),
    "join": ("new", "name", "number", "number"),
    "least": ("new", "name"),
    "show": ("name",),
    "best": ("name", "payoffs"),
    "compare": ("name", "name"),
    "by": ("name", "name"),
    "alike": ("name", "name"),
    "curve": ("name",),
}


class Desk:
    def __init__(self):
        self.glasses = {}

    def say(self, row):
        words = words_of(row)
        form = FORMS[words[0]]
        things = [self.thing_meant(kind, word) for kind, word in zip(form, words[1:])]
        if form[0] != "new":
            return answer_to(words[0], things)
        self.check_room(words[1])
        # Made first, so that what is refused changes nothing.
        made = made_by(words[0], things[1:])
        self.glasses[words[1]] = made
        return "ok"

    def thing_meant(self, kind, word):
        if kind == "name":
            return self.glass_named(word)
        if kind == "number":
            return int(word)
        if kind == "glass":
            return read_glass(word)
        if kind == "dulling":
            return read_dulling(word)
        if kind == "payoffs":
            return read_payoffs(word)
        return word

    def glass_named(self, name):
        if name not in self.glasses:
            raise NoName("no glass stands by this name")
        return self.glasses[name]

    def check_room(self, name):
        if name not in self.glasses and len(self.glasses) >= MOST_NAMES:
            raise Full("a desk keeps at most twenty glasses")


def words_of(row):
    if not isinstance(row, str):
        raise NoRow("a row is a text")
    first = row.partition(" ")[0]
    if first not in FORMS:
        raise NoRow("no row begins with this word")
    form = FORMS[first]
    # A text at the end has blanks of its own.
    words = row.split(" ", len(form)) if form[-1] in TEXTS else row.split(" ")
    if len(words) != len(form) + 1:
        raise NoRow("the row has too few or too many words")
    if not all([is_well_written(kind, word) for kind, word in zip(form, words[1:])]):
        raise NoRow("a new name has one to eight small letters, and a number at most six figures")
    return words


def is_well_written(kind, word):
    if kind == "new":
        return is_made_of(word, LETTERS) and len(word) <= MOST_LETTERS
    return kind != "number" or is_number(word, MOST_FIGURES)


def made_by(word, things):
    if word == "dull":
        return dulled(things[0], things[1])
    if word == "beside":
        return beside(things[0], things[1])
    if word == "join":
        return joined(things[0], things[1], things[2])
    if word == "least":
        return least(things[0])[0]
    return things[0]


def answer_to(word, things):
    if word == "show":
        return show_glass(things[0])
    if word == "best":
        return show_best(best(things[0], things[1]))
    if word == "compare":
        return show_compared(compared(things[0], things[1]))
    if word == "by":
        return show_dulling(compared(things[0], things[1]))
    if word == "alike":
        return "yes" if alike(things[0], things[1]) else "no"
    return show_curve(curve(things[0]))


def show_best(answer):
    return " ".join([show_share(answer[0])] + [str(act) for act in answer[1]])


def show_compared(answer):
    return "dulls" if answer[0] == "dulls" else "decision " + show_payoffs(answer[1])


def show_dulling(answer):
    return show_glass(answer[1]) if answer[0] == "dulls" else "no"


def show_curve(points):
    return " ".join([show_share(x) + "," + show_share(y) for x, y in points])
