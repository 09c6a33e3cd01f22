"""Sets of jobs: tuples of different names in ascending order."""


def lies_in(inner, outer):
    """Return True if all jobs of the first set are in the second one."""
    return all([job in outer for job in inner])


def with_job(wanted, job):
    """Return the set with one job more."""
    return tuple(sorted([*wanted, job]))


def without_job(wanted, job):
    """Return the set without one of its jobs."""
    return tuple([other for other in wanted if other != job])


def beginnings(order):
    """Return the list of the sets of the first jobs of an order, from the empty set on."""
    return [tuple(sorted(order[:count])) for count in range(len(order) + 1)]
