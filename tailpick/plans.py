"""Plans: rules with the durations and the costs of their jobs."""

from tailpick.checks import check_order_of, check_set_of, is_number
from tailpick.errors import BadNumber, NotAllowed, UnlikeJobs
from tailpick.jobsets import with_job
from tailpick.orders import first_barred, next_jobs

LONGEST_DURATION = 1000000000


def check_keys(jobs, table):
    """Raise UnlikeJobs if the keys of a dict are not the jobs."""
    names = tuple(sorted(table))
    if names != jobs:
        raise UnlikeJobs(names)


def check_durations(jobs, durations):
    """Raise BadNumber with the first duration that is none."""
    for job in jobs:
        duration = durations[job]
        if not is_number(duration) or duration > LONGEST_DURATION:
            raise BadNumber(duration)


def total(durations, wanted):
    """Return the sum of the durations of some jobs."""
    return sum([durations[job] for job in wanted])


class Plan:
    """Rules with a duration and a cost for each job. It never changes."""

    def __init__(self, rules, durations, costs):
        check_keys(rules.jobs, durations)
        check_keys(rules.jobs, costs)
        check_durations(rules.jobs, durations)
        self._rules = rules
        self._durations = dict(durations)
        self._costs = dict(costs)

    @property
    def rules(self):
        """The rules of the plan."""
        return self._rules

    def __eq__(self, other):
        return (isinstance(other, Plan) and self._rules == other._rules
                and self._durations == other._durations and self._costs == other._costs)

    def durations(self):
        """Return the dict with the duration of each job."""
        return dict(self._durations)

    def costs(self):
        """Return the dict with the cost of each job."""
        return dict(self._costs)

    def whole(self, wanted):
        """Return the sum of the durations of the jobs of a set."""
        check_set_of(self._rules.jobs, wanted)
        return total(self._durations, wanted)

    def ends(self, order):
        """Return the dict with the time at which each job ends in an order, allowed or not."""
        check_order_of(self._rules.jobs, order)
        found = {}
        time = 0
        for job in order:
            time = time + self._durations[job]
            found[job] = time
        return found

    def worth(self, order):
        """Return the greatest cost of a job at its end in an allowed order."""
        barred = first_barred(self._rules, order)
        if barred is not None:
            raise NotAllowed(barred)
        return max([self._costs[job].at(time) for job, time in self.ends(order).items()])


def cost_of_last(plan, wanted, job):
    """Return what a job of a set costs if it is the last one of the set."""
    return plan.costs()[job].at(plan.whole(wanted))


def worth_by(plan, least, done, job):
    """Return the smallest worth of the jobs behind a set if this job is done next."""
    reached = with_job(done, job)
    return max(cost_of_last(plan, reached, job), least[reached])


def least_behind(plan):
    """Return a dict with the smallest worth of the jobs that are done behind each allowed set."""
    least = {plan.rules.jobs: 0}
    for done in reversed(plan.rules.allowed[:-1]):
        least[done] = min([worth_by(plan, least, done, job) for job in next_jobs(plan.rules, done)])
    return least


def best_worth(plan):
    """Return the smallest worth of an allowed order."""
    return least_behind(plan)[()]


def best_order(plan):
    """Return the first allowed order, in ascending order, that has the smallest worth."""
    least = least_behind(plan)
    order = ()
    for _ in plan.rules.jobs:
        done = tuple(sorted(order))
        good = [job for job in next_jobs(plan.rules, done) if worth_by(plan, least, done, job) <= least[()]]
        order = (*order, good[0])
    return order
