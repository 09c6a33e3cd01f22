"""Tail orders: orders that are made from their end, each time with the job that costs least there."""

from tailpick.errors import BadSet
from tailpick.jobsets import beginnings, without_job
from tailpick.orders import last_jobs
from tailpick.plans import cost_of_last


def cheapest_last(plan, wanted):
    """Return the job that the tail order takes as the last one of an allowed set."""
    if wanted == ():
        raise BadSet(wanted)
    # Of several jobs, min takes the first one, and they are in ascending order.
    return min(last_jobs(plan.rules, wanted), key=lambda job: cost_of_last(plan, wanted, job))


def tail_order(plan):
    """Return the tail order of a plan."""
    order = ()
    left = plan.rules.jobs
    while left:
        job = cheapest_last(plan, left)
        order = (job, *order)
        left = without_job(left, job)
    return order


def tail_worth(plan):
    """Return the worth of the tail order of a plan."""
    return plan.worth(tail_order(plan))


def tail_sets(plan):
    """Return the list of the beginnings of the tail order, but the empty one, the longest one first."""
    return list(reversed(beginnings(tail_order(plan))[1:]))
