"""How far one gets with some rules, job after job."""


def lies_in(inner, outer):
    """Return True if all jobs of the first set are in the second one."""
    return all([job in outer for job in inner])


def with_job(wanted, job):
    """Return the set with one job more."""
    return tuple(sorted([*wanted, job]))


def needs_met(needs, job, done):
    """Return True if each need of the job is met by the jobs that are done."""
    for needing, alternatives in needs:
        if needing == job and not any([lies_in(wanted, done) for wanted in alternatives]):
            return False
    return True


def limits_kept(limits, done):
    """Return True if no limit is broken when just these jobs are done."""
    for job, wanted in limits:
        if job not in done and lies_in(wanted, done):
            return False
    return True


def may_follow(needs, limits, done, job):
    """Return True if the job can be the next one after the jobs that are done."""
    if job in done or not needs_met(needs, job, done):
        return False
    return limits_kept(limits, with_job(done, job))


def next_sets(jobs, needs, limits, reached):
    """Return, in order, what can be reached by one job more from some sets of one length."""
    return sorted({
        with_job(done, job)
        for done in reached for job in jobs if may_follow(needs, limits, done, job)
    })


def longest_reached(jobs, needs, limits):
    """Return the first of the longest sets that can be reached."""
    longest = ()
    level = [longest]
    while level:
        longest = level[0]
        level = next_sets(jobs, needs, limits, level)
    return longest
