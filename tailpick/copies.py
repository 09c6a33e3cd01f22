"""Copies of values that callers may change."""


def copied(value):
    """Return a copy of the value, which may be any value, down to its inner lists and dicts."""
    if isinstance(value, list):
        return [copied(item) for item in value]
    # What stands in a tuple may be changed, even if the tuple itself is not.
    if isinstance(value, tuple):
        return tuple([copied(item) for item in value])
    if isinstance(value, dict):
        return {key: copied(item) for key, item in value.items()}
    return value
