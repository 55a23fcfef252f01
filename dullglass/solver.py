"""Equations over values none below 0: values that fit, or weights that show that none do."""

from dullglass.errors import TooMany
from dullglass.shares import divisor, share

MOST_UNKNOWNS = 20
MOST_ROWS = 24


def solved(rows, sums):
    unknowns = len(rows[0]) if rows else 0
    if unknowns > MOST_UNKNOWNS or len(rows) > MOST_ROWS:
        raise TooMany("there are at most 20 unknowns and 24 rows")
    board = Board(unknowns, rows, sums)
    lack = board.lack()
    while lack[-1] > 0:
        place = first_above(lack[:unknowns])
        if place is None:
            return ("none", lowest(lack[unknowns:-1]))
        board.bring_in(place)
        lack = board.lack()
    return ("fits", board.told())


# The first one, and not the greatest: so no round of swaps comes back to where it began (Bland's
# rule), and the search always ends.
def first_above(numbers):
    for place, number in enumerate(numbers):
        if number > 0:
            return place
    return None


def lowest(weights):
    common = 0
    for weight in weights:
        common = divisor(common, weight)
    return [weight // common for weight in weights]


# The simplex method in whole numbers. Each line has the numbers of the unknowns, then marks, then a
# sum, 0 or more, all of them over one bottom. The marks tell how often each row that was handed in
# is in the line. A line stands for one unknown, its value the line's sum; at first for none (told
# by a number below 0), and then its sum is what is still lacking.
class Board:
    def __init__(self, unknowns, rows, sums):
        self.unknowns = unknowns
        self.bottom = 1
        self.lines = [first_line(rows[k], sums[k], k, len(rows)) for k in range(len(rows))]
        self.stands_for = list(range(-len(rows), 0))

    # The sum of the lines that stand for no unknown yet. Where no unknown has a number above 0 in
    # it, nothing can make up for its sum, and its marks are the weights that show so.
    def lack(self):
        total = [0 for number in range(self.unknowns + len(self.lines) + 1)]
        for line, unknown in zip(self.lines, self.stands_for):
            if unknown < 0:
                total = [one + other for one, other in zip(total, line)]
        return total

    def bring_in(self, place):
        turn = self.tightest(place)
        pivot = self.lines[turn]
        bottom = self.bottom
        self.lines = [line if k == turn else cleared(line, pivot, place, bottom) for k, line in enumerate(self.lines)]
        self.stands_for[turn] = place
        self.bottom = pivot[place]

    # The line whose sum is used up first as the unknown grows, so that no sum falls below 0.
    def tightest(self, place):
        chosen = None
        for k, line in enumerate(self.lines):
            if line[place] > 0 and (chosen is None or self.is_tighter(k, chosen, place)):
                chosen = k
        return chosen

    def is_tighter(self, k, chosen, place):
        one = self.lines[k][-1] * self.lines[chosen][place]
        other = self.lines[chosen][-1] * self.lines[k][place]
        # Among equals the least unknown goes: the other half of Bland's rule.
        return one < other or (one == other and self.stands_for[k] < self.stands_for[chosen])

    def told(self):
        found = [share(0, 1) for place in range(self.unknowns)]
        for line, unknown in zip(self.lines, self.stands_for):
            if unknown >= 0:
                found[unknown] = share(line[-1], self.bottom)
        return found


def first_line(row, total, k, many):
    turned = -1 if total < 0 else 1
    marks = [1 if place == k else 0 for place in range(many)]
    return [turned * number for number in list(row) + marks + [total]]


# The division leaves no rest: each number of a board is, but for its sign, a determinant of numbers
# that were handed in, so the numbers stay short as well.
def cleared(line, pivot, place, bottom):
    return [(one * pivot[place] - line[place] * other) // bottom for one, other in zip(line, pivot)]
