"""Shelves of glasses: which of them no other one makes needless, and by what the others come of these."""

from dullglass.compare import check_few_signs, compared
from dullglass.dulls import check_alike_stands
from dullglass.errors import NoFit

MOST_GLASSES = 5


def tops(shelf):
    check_shelf(shelf)
    answers = [compared_with_all(glass, shelf) for glass in shelf]
    found = [number for number in range(len(shelf)) if not is_outdone(number, answers)]
    rest = [number for number in range(len(shelf)) if number not in found]
    return (found, [row_of(number, found, answers) for number in rest])


def check_shelf(shelf):
    if not isinstance(shelf, list) or not 1 <= len(shelf) <= MOST_GLASSES:
        raise NoFit("a shelf is a list of one to five glasses")
    for glass in shelf:
        check_alike_stands(shelf[0], glass)
    for glass in shelf:
        check_few_signs(glass)


def compared_with_all(glass, shelf):
    return [compared(glass, other) for other in shelf]


def is_outdone(number, answers):
    return any([outdoes(other, number, answers) for other in range(len(answers))])


# At least as good, and ahead in the shelf where both are alike: so none outdoes itself.
def outdoes(one, other, answers):
    return dulls_so(one, other, answers) and (one < other or not dulls_so(other, one, answers))


def dulls_so(one, other, answers):
    return answers[one][other][0] == "dulls"


# There is always such a top: who outdoes one glass outdoes all that this one does, and none outdoes itself.
def row_of(number, found, answers):
    by = [top for top in found if dulls_so(top, number, answers)][0]
    return (number, by, answers[by][number][1])
