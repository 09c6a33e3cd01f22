"""Tame books of rules, and the triples that show that a book is wild."""

from tailpick.errors import UnknownName
from tailpick.jobsets import without_job
from tailpick.orders import is_allowed, last_jobs, sets_before


def cannot_spare(rules, inner, job):
    """Return True if the job is in the allowed set, and the set without it is not allowed."""
    return job in inner and not is_allowed(rules, without_job(inner, job))


def triples_of(rules, wanted):
    """Return the list, in order, of the triples that begin with an allowed set."""
    before = sets_before(rules, wanted)
    return [
        (wanted, job, inner)
        for job in last_jobs(rules, wanted) for inner in before if cannot_spare(rules, inner, job)
    ]


def wild_triple(rules):
    """Return the first triple of the rules, or None if there is none."""
    for wanted in rules.allowed:
        triples = triples_of(rules, wanted)
        if triples:
            return triples[0]
    return None


def is_tame(rules):
    """Return True if the rules are tame."""
    return wild_triple(rules) is None


def check_triple(rules, value):
    """Return True if the value, which may be any value, is a triple of the rules."""
    if not isinstance(value, tuple) or len(value) != 3:
        return False
    return is_allowed(rules, value[0]) and value in triples_of(rules, value[0])


def put_last(order, name):
    """Return a tuple of different names with one of them moved to its end."""
    if name not in order:
        raise UnknownName(name)
    return (*[other for other in order if other != name], name)
