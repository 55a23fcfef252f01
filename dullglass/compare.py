"""Two glasses compared: a dulling by which the one becomes the other, or a decision that shows there is none."""

from dullglass.dulls import check_alike_stands
from dullglass.errors import TooMany
from dullglass.glasses import signs, stands, table_of_shares
from dullglass.shares import share, times
from dullglass.solver import solved

MOST_COMPARED = 4


def compared(one, other):
    check_alike_stands(one, other)
    check_few_signs(one)
    check_few_signs(other)
    answer = solved(equations(one, other), wanted_sums(one, other))
    if answer[0] == "fits":
        return ("dulls", dulling_by(one, other, answer[1]))
    # The weights of the signs, stand by stand, are payoffs. 0 less the last ones bounds what each sign of the
    # one can bring by any act; by act j for sign j the other gains more than all these bounds together.
    return ("decision", tuple(in_rows(answer[1], signs(other), stands(other))))


def alike(one, other):
    return dulls_into(one, other) and dulls_into(other, one)


def dulls_into(one, other):
    return compared(one, other)[0] == "dulls"


def check_few_signs(glass):
    if signs(glass) > MOST_COMPARED:
        raise TooMany("glasses of at most four signs are compared")


# The unknowns are the shares of the dulling, row behind row, each times the other's bottom over the
# one's: so the numbers of the equations are no longer than those of the glasses.
def equations(one, other):
    many = signs(other)
    rows = []
    for row in one[1]:
        rows.extend([seen_as(row, sign, many) for sign in range(many)])
    rows.extend([shown_in_all(one, sign, many) for sign in range(signs(one))])
    return rows


def seen_as(row, new, many):
    return [row[place // many] if place % many == new else 0 for place in range(len(row) * many)]


def shown_in_all(one, old, many):
    return [one[0] if place // many == old else 0 for place in range(signs(one) * many)]


def wanted_sums(one, other):
    sums = []
    for row in other[1]:
        sums.extend(row)
    return sums + [other[0] for sign in range(signs(one))]


def dulling_by(one, other, values):
    back = share(one[0], other[0])
    shares = [times(value, back) for value in values]
    return table_of_shares(in_rows(shares, signs(other), signs(one)))


def in_rows(flat, wide, many):
    return [tuple(flat[k * wide:(k + 1) * wide]) for k in range(many)]
