"""Floors: sets of jobs that show that no order has a smaller worth than some bound."""

from tailpick.checks import is_integer
from tailpick.errors import NotTame
from tailpick.orders import is_allowed
from tailpick.plans import best_worth, cost_of_last
from tailpick.tails import cheapest_last, tail_sets
from tailpick.taming import wild_triple


def check_tame(rules):
    """Raise NotTame with the first triple of the rules if they are wild."""
    triple = wild_triple(rules)
    if triple is not None:
        raise NotTame(triple)


def least_last(plan, wanted):
    """Return what the cheapest of the last jobs of an allowed set costs there."""
    return cost_of_last(plan, wanted, cheapest_last(plan, wanted))


def is_floor(plan, wanted, bound):
    """Return True if the two values, which may be any values, make a floor."""
    if not is_allowed(plan.rules, wanted) or wanted == ():
        return False
    return is_integer(bound) and bound <= least_last(plan, wanted)


def check_floor(plan, value):
    """Return True if the value, which may be any value, is a floor of a plan with tame rules."""
    check_tame(plan.rules)
    return isinstance(value, tuple) and len(value) == 2 and is_floor(plan, value[0], value[1])


def floor(plan):
    """Return a floor of a plan with tame rules that shows that its best worth is the smallest one."""
    check_tame(plan.rules)
    bound = best_worth(plan)
    # There is one: in tame rules the tail order has this worth, so some job costs so much as the last one.
    shown = [wanted for wanted in tail_sets(plan) if is_floor(plan, wanted, bound)]
    return (shown[0], bound)
