"""Verdicts on rules, and plans that show that wild rules are wild."""

from tailpick.copies import copied
from tailpick.costs import Cost
from tailpick.errors import IsTame
from tailpick.jobsets import beginnings
from tailpick.orders import allowed_orders, is_order
from tailpick.plans import Plan, total
from tailpick.tails import tail_worth
from tailpick.taming import check_triple, is_tame, wild_triple


def order_through(rules, inner, outer):
    """Return the first allowed order that has both sets among its beginnings."""
    orders = list(allowed_orders(rules))
    return [order for order in orders if inner in beginnings(order) and outer in beginnings(order)][0]


def wild_durations(jobs, triple):
    """Return the dict with the durations that make a triple matter."""
    wanted, _, inner = triple
    # Each of these is longer than all jobs of the inner set together.
    slow = [job for job in wanted if job not in inner]
    return {job: len(jobs) + 1 if job in slow else 1 for job in jobs}


def wild_cost(triple, durations, job):
    """Return the cost of a job that makes a triple matter."""
    wanted, spared, inner = triple
    whole = total(durations, wanted)
    if job not in wanted:
        return Cost([])
    # The tail order takes this job as the last one of the set, since it is free there. Without it
    # the rest of the inner set is not allowed, so another job of that set comes behind a slow one.
    if job == spared:
        return Cost([(whole + 1, 2)])
    if job in inner:
        return Cost([(total(durations, inner) + 1, 2)])
    return Cost([(whole, 1), (whole + 1, 2)])


def wild_plan(rules):
    """Return a plan with wild rules, and an allowed order with a smaller worth than the tail order."""
    triple = wild_triple(rules)
    if triple is None:
        raise IsTame()
    durations = wild_durations(rules.jobs, triple)
    costs = {job: wild_cost(triple, durations, job) for job in rules.jobs}
    return (Plan(rules, durations, costs), order_through(rules, triple[2], triple[0]))


def check_wild(rules, plan, order):
    """Return True if the order, which may be any value, shows with the plan that the rules are wild."""
    return plan.rules == rules and is_order(rules, order) and plan.worth(order) < tail_worth(plan)


class Verdict:
    """Whether rules are tame or wild, and a value that shows it. It never changes."""

    def __init__(self, kind, paper):
        self._kind = copied(kind)
        self._paper = copied(paper)

    @property
    def kind(self):
        """The kind that was given, for rules "tame" or "wild"."""
        return copied(self._kind)

    @property
    def paper(self):
        """What was given to show the kind."""
        return copied(self._paper)


def judge(rules):
    """Return the verdict of the rules."""
    triple = wild_triple(rules)
    if triple is None:
        return Verdict("tame", None)
    return Verdict("wild", triple)


def check_verdict(rules, verdict):
    """Return True if the verdict is right about the rules. What it keeps may be any values."""
    if is_tame(rules):
        return verdict.kind == "tame" and verdict.paper is None
    return verdict.kind == "wild" and check_triple(rules, verdict.paper)
