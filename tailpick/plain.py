"""Plain needs: a set for each job that must be done before it; and what can be left out of rules."""

from tailpick.likeness import alike
from tailpick.rules import Rules


def always_before(rules, job):
    """Return the set of the jobs that are done before a job in every allowed order."""
    # Another job can come later exactly if some allowed set has the one and not the other.
    having = [wanted for wanted in rules.allowed if job in wanted]
    others = [other for other in rules.jobs if other != job]
    return tuple([other for other in others if all([other in wanted for wanted in having])])


def must_precede(rules):
    """Return the dict with the set of the jobs that are done before each job in every allowed order."""
    return {job: always_before(rules, job) for job in rules.jobs}


def plain_needs(rules):
    """Return the dict of must_precede if it says all that the rules say, and None otherwise."""
    needs = must_precede(rules)
    return needs if alike(rules, plain_rules(needs)) else None


def plain_rules(needs):
    """Return the rules by which all jobs of its set in the dict must be done before each job."""
    jobs = sorted(needs)
    return Rules(jobs, [(job, [needs[job]]) for job in jobs if needs[job] != ()], [])


def needless(rules):
    """Return the list of the numbers of all needless needs, and that of all needless limits."""
    needs = [number for number in range(len(rules.needs)) if alike(rules, rules.without_need(number))]
    limits = [number for number in range(len(rules.limits)) if alike(rules, rules.without_limit(number))]
    return (needs, limits)


def slim(rules):
    """Return rules that allow the same orders and in which nothing is needless."""
    left = rules
    # From the last one on, so that those that come later still have their numbers.
    for number in reversed(range(len(rules.needs))):
        fewer = left.without_need(number)
        left = fewer if alike(rules, fewer) else left
    for number in reversed(range(len(rules.limits))):
        fewer = left.without_limit(number)
        left = fewer if alike(rules, fewer) else left
    return left
