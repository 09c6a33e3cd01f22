"""How far one gets with some rules, job after job."""

from tailpick.jobsets import lies_in, with_job


def needs_met(needs, job, done):
    """Return True if each need of the job is met by the jobs that are done."""
    for needing, alternatives in needs:
        if needing == job and not any([lies_in(wanted, done) for wanted in alternatives]):
            return False
    return True


def limits_kept(limits, done):
    """Return True if no limit is broken when just these jobs are done."""
    for job, wanted in limits:
        if job not in done and lies_in(wanted, done):
            return False
    return True


def may_follow(needs, limits, done, job):
    """Return True if the job can be the next one after the jobs that are done."""
    if job in done or not needs_met(needs, job, done):
        return False
    return limits_kept(limits, with_job(done, job))


def next_sets(jobs, needs, limits, reached):
    """Return, in order, what can be reached by one job more from some sets of one length."""
    return sorted({
        with_job(done, job)
        for done in reached for job in jobs if may_follow(needs, limits, done, job)
    })


def reached_levels(jobs, needs, limits):
    """Return the sets that can be reached, as one list in order for each length from 0 on."""
    levels = []
    level = [()]
    while level:
        levels.append(level)
        level = next_sets(jobs, needs, limits, level)
    return levels


def goes_on(jobs, done, beyond):
    """Return True if one job more makes the set one of those beyond it."""
    return any([with_job(done, job) in beyond for job in jobs if job not in done])


def leading_on(jobs, levels):
    """Return, in order, those sets of the levels from which one gets to the last level."""
    # If a set can be reached with a job and without it, the job can follow: its needs were met
    # when the set with it was reached, and then no other jobs than these were done.
    beyond = levels[-1]
    found = list(beyond)
    for level in reversed(levels[:-1]):
        beyond = [done for done in level if goes_on(jobs, done, beyond)]
        found = [*beyond, *found]
    return found
