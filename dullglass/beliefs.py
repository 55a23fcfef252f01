"""Beliefs: how likely each stand is held to be behind what a glass shows, and glasses made of them."""

from dullglass.errors import NoBeliefs, NoFit
from dullglass.glasses import FEWEST_STANDS, MOST_SIGNS, MOST_STANDS, column, signs, stands, table_of_shares
from dullglass.least import least
from dullglass.shares import below, is_whole, share, summed, times

MOST_WEIGHT = 1000


def beliefs(glass, weights):
    if not is_weights(weights) or len(weights) != stands(glass):
        raise NoFit("weights are a tuple with a whole number from 1 to 1000 for each stand of the glass")
    # Signs with one and the same belief are those that the least form joins.
    form = least(glass)[0]
    found = [belief_behind(form, weights, sign) for sign in range(signs(form))]
    # Over one bottom shares compare as whole numbers do.
    order = table_of_shares([belief for part, belief in found])[1]
    return [row for numbers, row in sorted(zip(order, found))]


def is_weights(thing):
    if not isinstance(thing, tuple) or not FEWEST_STANDS <= len(thing) <= MOST_STANDS:
        return False
    return all([is_whole(weight) and 1 <= weight <= MOST_WEIGHT for weight in thing])


def belief_behind(glass, weights, sign):
    likely = [weight * number for weight, number in zip(weights, column(glass[1], sign))]
    belief = tuple([share(number, sum(likely)) for number in likely])
    return (share(sum(likely), sum(weights) * glass[0]), belief)


def glass_by(weights, rows):
    if not is_weights(weights):
        raise NoFit("weights are a tuple of two to four whole numbers from 1 to 1000")
    if not 1 <= len(rows) <= MOST_SIGNS or not all([is_belief(row, len(weights)) for row in rows]):
        raise NoBeliefs("one to twelve rows of a share above 0 and shares for all stands that come to 1")
    shown = [shown_at(stand, weights, rows) for stand in range(len(weights))]
    # A stand's signs come to 1 just where the beliefs have its weight over the sum as their mean.
    if not all([summed(row) == (1, 1) for row in shown]):
        raise NoBeliefs("the beliefs have the weights as their mean")
    return table_of_shares(shown)


def is_belief(row, many):
    none = share(0, 1)
    if not below(none, row[0]) or len(row[1]) != many:
        return False
    return not any([below(part, none) for part in row[1]]) and summed(row[1]) == (1, 1)


def shown_at(stand, weights, rows):
    back = share(sum(weights), weights[stand])
    return [times(times(part, belief[stand]), back) for part, belief in rows]
