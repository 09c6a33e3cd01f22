"""What any value may turn out to be, and the errors if it is something else."""

from tailpick.errors import BadCount, BadNumber, BadOrder, BadSet


def is_integer(value):
    """Return True if the value, which may be any value, is an integer."""
    # True and False are integers to Python, but not here.
    return isinstance(value, int) and not isinstance(value, bool)


def is_number(value):
    """Return True if the value, which may be any value, is an integer from 0 on."""
    return is_integer(value) and value >= 0


def only_jobs(jobs, value):
    """Return True if the value, which may be any value, is a tuple of some of these jobs."""
    return isinstance(value, tuple) and all([item in jobs for item in value])


def is_set_of(jobs, value):
    """Return True if the value, which may be any value, is a set of some of these jobs."""
    # Only what are surely names can be put in order.
    return only_jobs(jobs, value) and list(value) == sorted(set(value))


def is_order_of(jobs, value):
    """Return True if the value, which may be any value, is an order of all these jobs."""
    return only_jobs(jobs, value) and sorted(value) == sorted(jobs)


def check_count(count, least, most):
    """Raise BadCount if there are too few or too many."""
    if not least <= count <= most:
        raise BadCount(count)


def check_number(value):
    """Raise BadNumber if the value, which may be any value, is not an integer from 0 on."""
    if not is_number(value):
        raise BadNumber(value)


def check_set_of(jobs, value):
    """Raise BadSet if the value, which may be any value, is not a set of some of these jobs."""
    if not is_set_of(jobs, value):
        raise BadSet(value)


def check_order_of(jobs, value):
    """Raise BadOrder if the value, which may be any value, is not an order of all these jobs."""
    if not is_order_of(jobs, value):
        raise BadOrder(value)
