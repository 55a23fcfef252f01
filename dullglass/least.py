"""The least form of a glass: no sign that is never seen, and no two that tell the same."""

from dullglass.glasses import column, common_divisor, divided, lowest_table, one_sign, signs, table_of_shares
from dullglass.shares import share


def least(glass):
    groups = sorted_groups(glass)
    form = lowest_table(glass[0], [joined_numbers(row, groups) for row in glass[1]])
    there = (1, tuple([one_sign(place_of(sign, groups), len(groups)) for sign in range(signs(glass))]))
    back = table_of_shares([parts_of(group, glass) for group in groups])
    return (form, there, back)


# The signs of a group are the same but for a fraction: so are their columns, each divided by what
# divides all of it.
def sorted_groups(glass):
    groups = {}
    for sign in range(signs(glass)):
        numbers = column(glass[1], sign)
        if any(numbers):
            alone = divided(numbers, common_divisor([numbers]))
            groups.setdefault(alone, []).append(sign)
    return sorted(groups.values(), key=lambda group: joined_column(glass, group))


def joined_column(glass, group):
    return [joined_number(row, group) for row in glass[1]]


def joined_numbers(row, groups):
    return [joined_number(row, group) for group in groups]


def joined_number(row, group):
    return sum([row[sign] for sign in group])


# 0 for a sign that is never seen and so is in no group.
def place_of(sign, groups):
    for place, group in enumerate(groups):
        if sign in group:
            return place
    return 0


# Told by whole columns: at a stand where none of the group is seen there would be nothing to part.
def parts_of(group, glass):
    whole = sum(joined_column(glass, group))
    return [share(sum(column(glass[1], sign)) if sign in group else 0, whole) for sign in range(signs(glass))]
