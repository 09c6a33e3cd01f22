"""Books of rules held against one another."""

from tailpick.errors import UnlikeJobs
from tailpick.orders import allowed_orders, is_allowed
from tailpick.rules import Rules


def check_same_jobs(one, other):
    """Raise UnlikeJobs if two books of rules do not have the same jobs."""
    if other.jobs != one.jobs:
        raise UnlikeJobs(other.jobs)


def alike(one, other):
    """Return True if two books of rules allow the same orders."""
    check_same_jobs(one, other)
    return one.allowed == other.allowed


def within(one, other):
    """Return True if every order that the first book of rules allows is allowed by the second one."""
    check_same_jobs(one, other)
    # Orders are allowed if all their beginnings are, and each allowed set is a beginning of one.
    return all([is_allowed(other, wanted) for wanted in one.allowed])


def parting(one, other):
    """Return the first order that just one book of rules allows, and which one does, or None."""
    check_same_jobs(one, other)
    ones = list(allowed_orders(one))
    others = list(allowed_orders(other))
    apart = sorted(set(ones) ^ set(others))
    if not apart:
        return None
    return (apart[0], 0 if apart[0] in ones else 1)


def both(one, other):
    """Return the rules with the needs and the limits of two books of rules."""
    check_same_jobs(one, other)
    return Rules(one.jobs, one.needs + other.needs, one.limits + other.limits)
