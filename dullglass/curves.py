"""Glasses over two stands: their curves, the heights of these, and one glass held against another one."""

from dullglass.errors import NoFit, NoShare
from dullglass.glasses import column, signs, stands
from dullglass.least import least
from dullglass.shares import added, below, is_part, share, taken, times


def curve(glass):
    if stands(glass) != 2:
        raise NoFit("a curve is told of a glass over two stands")
    # The least form has no sign that is never seen, and over two stands just those of one steepness joined.
    form = least(glass)[0]
    x = 0
    y = 0
    corners = [(share(0, 1), share(0, 1))]
    for step in steepest_first([column(form[1], sign) for sign in range(signs(form))]):
        x += step[0]
        y += step[1]
        corners.append((share(x, form[0]), share(y, form[0])))
    return corners


# No two are as steep: so how many are steeper than one tells its place.
def steepest_first(steps):
    return sorted(steps, key=lambda step: len([other for other in steps if is_steeper(other, step)]))


def is_steeper(one, other):
    return one[1] * other[0] > other[1] * one[0]


def height(glass, x):
    corners = curve(glass)
    if not is_part(x):
        raise NoShare("the height is told at a share from 0 to 1")
    return height_on(line_at(corners, x), x)


# The last line that begins at x or ahead of it: where the curve goes straight up at x, the one behind
# that, which begins at the top. So a line that is told never goes straight up.
def line_at(corners, x):
    reached = [corner for corner in corners[:-1] if not below(x, corner[0])]
    return (reached[-1], corners[len(reached)])


def height_on(line, x):
    return added(line[0][1], times(slope(line), taken(x, line[0][0])))


def slope(line):
    run = taken(line[1][0], line[0][0])
    rise = taken(line[1][1], line[0][1])
    return share(rise[0] * run[1], rise[1] * run[0])


def held(one, other):
    corners = curve(one)
    for corner in curve(other):
        line = line_at(corners, corner[0])
        if below(height_on(line, corner[0]), corner[1]):
            return (corner, two_acts(slope(line)))
    return None


# Where act 1 is told for some signs and act 0 for the rest, one gains the slope's bottom times y, less its top
# times x, (x, y) being the sums of those signs' shares. The one gains most on the line that has this
# slope; the corner of the other lies above it.
def two_acts(steepness):
    return ((0, -steepness[0]), (0, steepness[1]))
