"""Sets and orders that rules allow."""

from tailpick.checks import check_order_of, is_order_of, is_set_of
from tailpick.errors import BadSet
from tailpick.jobsets import beginnings, with_job, without_job


def all_sets(jobs):
    """Return the list of all sets of the jobs in order."""
    found = [()]
    for job in jobs:
        found = [*found, *[(*wanted, job) for wanted in found]]
    return sorted(found, key=lambda wanted: (len(wanted), wanted))


def is_set(jobs, value):
    """Return True if the value, which may be any value, is a set of the jobs."""
    return is_set_of(jobs, value)


def allowed_sets(rules):
    """Return the list of all allowed sets in order."""
    return list(rules.allowed)


def is_allowed(rules, value):
    """Return True if the value, which may be any value, is an allowed set."""
    return value in rules.allowed


def check_allowed(rules, value):
    """Raise BadSet if the value, which may be any value, is not an allowed set."""
    if not is_allowed(rules, value):
        raise BadSet(value)


def last_jobs(rules, wanted):
    """Return the jobs that can be the last ones of an allowed set."""
    check_allowed(rules, wanted)
    return tuple([job for job in wanted if is_allowed(rules, without_job(wanted, job))])


def next_jobs(rules, wanted):
    """Return the jobs that can be done next when those of an allowed set are done."""
    check_allowed(rules, wanted)
    others = [job for job in rules.jobs if job not in wanted]
    return tuple([job for job in others if is_allowed(rules, with_job(wanted, job))])


def endings(rules):
    """Return a dict with the list, in ascending order, of all that can be done behind each allowed set."""
    found = {rules.jobs: [()]}
    for done in reversed(rules.allowed[:-1]):
        found[done] = [
            (job, *rest)
            for job in next_jobs(rules, done) for rest in found[with_job(done, job)]
        ]
    return found


def allowed_orders(rules):
    """Yield all allowed orders in ascending order."""
    yield from endings(rules)[()]


def count_orders(rules):
    """Return the number of the allowed orders."""
    return len(list(allowed_orders(rules)))


def is_order(rules, value):
    """Return True if the value, which may be any value, is an allowed order."""
    return is_order_of(rules.jobs, value) and first_barred(rules, value) is None


def first_barred(rules, order):
    """Return the first beginning of an order that is not an allowed set, or None."""
    check_order_of(rules.jobs, order)
    for done in beginnings(order):
        if not is_allowed(rules, done):
            return done
    return None


def sets_before(rules, outer):
    """Return the list, in order, of the sets that lie on the way to an allowed set."""
    found = []
    level = [outer]
    while level:
        found = [*level, *found]
        level = sorted({
            without_job(done, job)
            for done in level for job in last_jobs(rules, done)
        })
    return found


def on_the_way(rules, inner, outer):
    """Return True if the first of two allowed sets lies on the way to the second one."""
    check_allowed(rules, inner)
    check_allowed(rules, outer)
    return inner in sets_before(rules, outer)
