"""Decisions: what a plan gains by a glass, and the best that can be gained by it."""

from dullglass.errors import NoFit
from dullglass.glasses import column, paired, signs, stands
from dullglass.shares import is_whole, share


def gain(glass, payoffs, plan):
    check_payoffs(glass, payoffs)
    if not is_plan(plan, signs(glass), len(payoffs[0])):
        raise NoFit("a plan tells one act of the payoffs for each sign")
    worths = [worth(glass, payoffs, sign, act) for sign, act in enumerate(plan)]
    return share(sum(worths), glass[0])


def best(glass, payoffs):
    check_payoffs(glass, payoffs)
    plan = tuple([first_best_act(glass, payoffs, sign) for sign in range(signs(glass))])
    return (gain(glass, payoffs, plan), plan)


def check_payoffs(glass, payoffs):
    if len(payoffs) != stands(glass):
        raise NoFit("payoffs have a row for each stand of the glass")


def is_plan(plan, many, acts):
    if not isinstance(plan, tuple) or len(plan) != many:
        return False
    return all([is_whole(act) and 0 <= act < acts for act in plan])


# Over the glass's bottom, so that the worths of one glass compare as whole numbers.
def worth(glass, payoffs, sign, act):
    return paired(column(glass[1], sign), column(payoffs, act))


def first_best_act(glass, payoffs, sign):
    worths = [worth(glass, payoffs, sign, act) for act in range(len(payoffs[0]))]
    return worths.index(max(worths))
