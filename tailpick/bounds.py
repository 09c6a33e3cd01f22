"""Orders whose worth is at most a bound, and when jobs end in them."""

from tailpick.checks import check_number
from tailpick.orders import allowed_orders
from tailpick.plans import LONGEST_DURATION, best_worth
from tailpick.rules import check_job


def orders_within(plan, bound):
    """Return the list of all orders within the bound in ascending order."""
    check_number(bound)
    return [order for order in allowed_orders(plan.rules) if plan.worth(order) <= bound]


def order_within(plan, bound):
    """Return the first order within the bound, or None if there is none."""
    orders = orders_within(plan, bound)
    return orders[0] if orders else None


def count_within(plan, bound):
    """Return the number of the orders within the bound."""
    return len(orders_within(plan, bound))


def ends_within(plan, job, bound):
    """Return the list of the times at which a job ends in the orders within the bound."""
    check_job(plan.rules.jobs, job)
    return [plan.ends(order)[job] for order in orders_within(plan, bound)]


def latest_end(plan, job, bound):
    """Return the greatest time at which a job ends in an order within the bound, or None."""
    return max(ends_within(plan, job, bound), default=None)


def earliest_end(plan, job, bound):
    """Return the least time at which a job ends in an order within the bound, or None."""
    return min(ends_within(plan, job, bound), default=None)


def bounds(plan):
    """Return the ascending list of the worths that allowed orders have."""
    return sorted({plan.worth(order) for order in allowed_orders(plan.rules)})


def rooms_behind(plan, order, job, bound):
    """Return by how much a job, and each one behind it that has such a time, can end later within the bound."""
    ends = plan.ends(order)
    costs = plan.costs()
    latest = [(ends[other], costs[other].latest(bound)) for other in order[order.index(job):]]
    return [last - end for end, last in latest if last is not None]


def slack(plan, job):
    """Return by how much longer a job can take while the best worth stays the same."""
    check_job(plan.rules.jobs, job)
    bound = best_worth(plan)
    most = LONGEST_DURATION - plan.durations()[job]
    # Costs never fall, so the best worth stays the same as long as one of these orders keeps it.
    return max([min([most, *rooms_behind(plan, order, job, bound)]) for order in orders_within(plan, bound)])
