"""Books of rules: jobs, what each of them needs, and what it must not be later than."""

from tailpick.checks import check_count, is_number, is_set_of
from tailpick.errors import BadName, BadNumber, BadSet, DuplicateName, NoOrder, UnknownName
from tailpick.naming import valid_name
from tailpick.reach import leading_on, reached_levels
from tailpick.wording import read_parts, written_parts

MOST_JOBS = 6
MOST_NEEDS = 12
MOST_LIMITS = 12
MOST_ALTERNATIVES = 6


def check_jobs(jobs):
    """Raise what is wrong with the list of the names."""
    check_count(len(jobs), 1, MOST_JOBS)
    for at, name in enumerate(jobs):
        if not valid_name(name):
            raise BadName(name)
        if name in jobs[:at]:
            raise DuplicateName(name)


def check_job(jobs, name):
    """Raise UnknownName if there is no such job."""
    if name not in jobs:
        raise UnknownName(name)


def check_others(jobs, job, value):
    """Raise BadSet if the value is not a set of jobs other than this one."""
    if not is_set_of(jobs, value) or job in value:
        raise BadSet(value)


def check_needs(jobs, needs):
    """Raise what is wrong with the list of the needs."""
    check_count(len(needs), 0, MOST_NEEDS)
    for job, alternatives in needs:
        check_job(jobs, job)
        check_count(len(alternatives), 1, MOST_ALTERNATIVES)
        for value in alternatives:
            check_others(jobs, job, value)


def check_limits(jobs, limits):
    """Raise what is wrong with the list of the limits."""
    check_count(len(limits), 0, MOST_LIMITS)
    for job, value in limits:
        check_job(jobs, job)
        if value == ():
            raise BadSet(value)
        check_others(jobs, job, value)


def find_allowed(jobs, needs, limits):
    """Return the list of the allowed sets in order. Raise NoOrder if no order is allowed."""
    levels = reached_levels(jobs, needs, limits)
    if len(levels) <= len(jobs):
        raise NoOrder(levels[-1][0])
    return leading_on(jobs, levels)


def left_out(items, number):
    """Return the tuple without the item that has this number."""
    if not is_number(number) or number >= len(items):
        raise BadNumber(number)
    return (*items[:number], *items[number + 1:])


class Rules:
    """A book of rules. It never changes."""

    def __init__(self, jobs, needs, limits):
        check_jobs(jobs)
        check_needs(jobs, needs)
        check_limits(jobs, limits)
        # All that is asked about rules later on is asked of these sets.
        self._allowed = tuple(find_allowed(jobs, needs, limits))
        self._jobs = tuple(sorted(jobs))
        self._needs = tuple([(job, tuple(alternatives)) for job, alternatives in needs])
        self._limits = tuple([(job, wanted) for job, wanted in limits])

    @classmethod
    def read(cls, text):
        """Return the rules with such a text."""
        jobs, needs, limits = read_parts(text)
        return cls(jobs, needs, limits)

    @property
    def jobs(self):
        """The tuple of the jobs in ascending order."""
        return self._jobs

    @property
    def needs(self):
        """The tuple of the needs, each a tuple of the job and the tuple of its alternatives."""
        return self._needs

    @property
    def limits(self):
        """The tuple of the limits, each a tuple of the job and the set."""
        return self._limits

    @property
    def allowed(self):
        """The tuple of the allowed sets in order."""
        return self._allowed

    def __eq__(self, other):
        return (isinstance(other, Rules) and self._jobs == other._jobs
                and self._needs == other._needs and self._limits == other._limits)

    def __str__(self):
        return "; ".join(written_parts(self._jobs, self._needs, self._limits))

    def with_need(self, job, alternatives):
        """Return the rules with one need more, behind the others."""
        return Rules(self._jobs, (*self._needs, (job, alternatives)), self._limits)

    def with_limit(self, job, wanted):
        """Return the rules with one limit more, behind the others."""
        return Rules(self._jobs, self._needs, (*self._limits, (job, wanted)))

    def without_need(self, number):
        """Return the rules without the need that has this number."""
        return Rules(self._jobs, left_out(self._needs, number), self._limits)

    def without_limit(self, number):
        """Return the rules without the limit that has this number."""
        return Rules(self._jobs, self._needs, left_out(self._limits, number))
