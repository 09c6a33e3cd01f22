"""The words of the document once more, by trying out all orders; and rules to try them with."""

import functools
import itertools
import random

from tailpick.costs import Cost
from tailpick.errors import NoOrder
from tailpick.plans import Plan
from tailpick.rules import Rules

NAMES = ["a", "b", "c", "d", "e", "f"]


def keeps(done_in_order, needs, limits):
    """Whether doing just these jobs in this order keeps all rules at each moment."""
    for count, job in enumerate(done_in_order):
        before, after = set(done_in_order[:count]), set(done_in_order[:count + 1])
        for needing, alternatives in needs:
            if needing == job and not any(set(wanted) <= before for wanted in alternatives):
                return False
        for limited, wanted in limits:
            if set(wanted) <= after and limited not in after:
                return False
    return True


@functools.cache
def orders_by(jobs, needs, limits):
    return [order for order in itertools.permutations(jobs) if keeps(order, needs, limits)]


def orders_of(rules):
    """All allowed orders in ascending order."""
    return list(orders_by(rules.jobs, rules.needs, rules.limits))


def beginnings_of(order):
    return [tuple(sorted(order[:count])) for count in range(len(order) + 1)]


def in_order(sets):
    return sorted(set(sets), key=lambda wanted: (len(wanted), wanted))


def sets_of(jobs):
    """All sets of the jobs in order."""
    return [wanted for count in range(len(jobs) + 1) for wanted in itertools.combinations(sorted(jobs), count)]


@functools.cache
def allowed_by(jobs, needs, limits):
    return in_order(done for order in orders_by(jobs, needs, limits) for done in beginnings_of(order))


def allowed_of(rules):
    """All allowed sets in order."""
    return list(allowed_by(rules.jobs, rules.needs, rules.limits))


def ways_of(rules):
    """All pairs of an allowed set and one that lies on the way to it."""
    found = set()
    for order in orders_of(rules):
        begun = beginnings_of(order)
        for at, outer in enumerate(begun):
            found.update((inner, outer) for inner in begun[:at + 1])
    return found


def without(wanted, job):
    return tuple(other for other in wanted if other != job)


def triples_of(rules):
    """All triples of the rules in order, found among all that have the parts of one."""
    allowed, ways = allowed_of(rules), ways_of(rules)
    return [
        (wanted, job, inner)
        for wanted in allowed for job in wanted if without(wanted, job) in allowed
        for inner in sets_of(rules.jobs)
        if job in inner and (inner, wanted) in ways and without(inner, job) not in allowed
    ]


def worth_of(order, durations, costs):
    """The greatest cost of a job at its end."""
    ends = itertools.accumulate(durations[job] for job in order)
    return max(cost_of(costs[job].steps, end) for job, end in zip(order, ends))


def cost_of(steps, time):
    """The cost at a time: that of the last tuple that has begun, 0 ahead of all."""
    cost = 0
    for start, now in steps:
        if start <= time:
            cost = now
    return cost


def whole_of(plan, wanted):
    return sum(plan.durations()[job] for job in wanted)


def last_costs(plan, wanted):
    """What each last job of an allowed set costs as the last one of it, as a list of (cost, job)."""
    allowed, time = allowed_of(plan.rules), whole_of(plan, wanted)
    return [
        (cost_of(plan.costs()[job].steps, time), job) for job in wanted if without(wanted, job) in allowed
    ]


def tail_of(plan):
    """The tail order: from the end, the least cost first, and then the first name."""
    order, left = [], plan.rules.jobs
    while left:
        order.append(min(last_costs(plan, left))[1])
        left = without(left, order[-1])
    return tuple(reversed(order))


def best_of(plan):
    """The smallest worth of an allowed order."""
    return min(worth_of(order, plan.durations(), plan.costs()) for order in orders_of(plan.rules))


def some_set(source, others, least):
    return tuple(sorted(source.sample(others, source.randint(least, min(3, len(others))))))


def some_rules(source, count):
    """The arguments for some rules with this number of jobs; they may allow no order."""
    jobs = source.sample(NAMES, count)
    needs, limits = [], []
    for _ in range(source.randint(0, count + 1)):
        job = source.choice(jobs)
        others = [name for name in jobs if name != job]
        needs.append((job, [some_set(source, others, min(1, len(others))) for _ in range(source.randint(1, 2))]))
        if source.random() < 0.6:
            limits.append((job, some_set(source, others, 1)))
    return jobs, needs, limits


def loose_rules(source, count):
    """The arguments for rules with small sets and few limits; they are wild more often."""
    jobs = source.sample(NAMES, count)
    needs, limits = [], []
    for _ in range(source.randint(1, 3)):
        job = source.choice(jobs)
        others = [name for name in jobs if name != job]
        needs.append((job, [some_set(source, others, 1) for _ in range(source.randint(1, 3))]))
        if source.random() < 0.2:
            limits.append((job, some_set(source, others, 1)))
    return jobs, needs, limits


def some_books(seed, number, counts=(2, 3, 4, 4, 5), makers=(some_rules, loose_rules)):
    """A list of rules that allow an order."""
    source = random.Random(seed)
    found = []
    while len(found) < number:
        make = source.choice(makers)
        try:
            found.append(Rules(*make(source, source.choice(counts))))
        except NoOrder:
            pass
    return found


def some_steps(source, most, latest):
    """The steps of some cost."""
    times = sorted(source.sample(range(latest + 1), source.randint(0, most)))
    return [(time, cost) for time, cost in zip(times, sorted(source.sample(range(1, most + 3), len(times))))]


def some_plans(seed, books):
    """A plan for each of the books, with small durations; often some orders are equally good."""
    source = random.Random(seed)
    return [
        Plan(rules, {job: source.randint(0, 4) for job in rules.jobs},
             {job: Cost(some_steps(source, 4, 14)) for job in rules.jobs})
        for rules in books
    ]
