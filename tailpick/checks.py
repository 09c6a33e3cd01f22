"""What any value may turn out to be."""


def is_number(value):
    """Return True if the value, which may be any value, is an integer from 0 on."""
    # True and False are integers to Python, but not here.
    return isinstance(value, int) and not isinstance(value, bool) and value >= 0


def is_set_of(jobs, value):
    """Return True if the value, which may be any value, is a set of some of these jobs."""
    if not isinstance(value, tuple):
        return False
    # Only what are surely names can be put in order.
    if not all([item in jobs for item in value]):
        return False
    return list(value) == sorted(set(value))
