"""Costs that rise with the time."""

from tailpick.checks import check_count, check_number, is_number
from tailpick.errors import BadSteps, BadText
from tailpick.naming import DIGITS

MOST_STEPS = 40
MOST_DIGITS = 30


def is_step(value, before):
    """Return True if the value, which may be any value, can stand behind another step."""
    if not isinstance(value, tuple) or len(value) != 2:
        return False
    time, cost = value
    return is_number(time) and is_number(cost) and time > before[0] and cost > before[1]


def check_steps(steps):
    """Raise what is wrong with the list of the steps."""
    check_count(len(steps), 0, MOST_STEPS)
    before = (-1, 0)
    for value in steps:
        if not is_step(value, before):
            raise BadSteps(value)
        before = value


def cost_at(steps, time):
    """Return the cost at a time."""
    return max([cost for start, cost in steps if start <= time], default=0)


def start_times(one, other):
    """Return the times of the steps of two costs in ascending order."""
    return sorted({start for start, _ in [*one, *other]})


def sum_steps(one, other):
    """Return the steps of the sum of two costs."""
    return [(time, cost_at(one, time) + cost_at(other, time)) for time in start_times(one, other)]


def greater_steps(one, other):
    """Return the steps of the greater one of two costs."""
    steps = []
    for time in start_times(one, other):
        cost = max(cost_at(one, time), cost_at(other, time))
        # One cost may rise below the other one.
        if cost > cost_at(steps, time):
            steps.append((time, cost))
    return steps


def is_numeral(text):
    """Return True if the string is an integer from 0 on as costs write it."""
    if not 1 <= len(text) <= MOST_DIGITS or not all([sign in DIGITS for sign in text]):
        return False
    return text == "0" or text[0] != "0"


def read_step(part, text):
    """Return the step that is written in a part of a text. The text is for BadText."""
    time, _, cost = part.partition(":")
    if not is_numeral(time) or not is_numeral(cost):
        raise BadText(text)
    return (int(time), int(cost))


def read_steps(text):
    """Return the list of the steps that are written in a text."""
    if text == "free":
        return []
    return [read_step(part, text) for part in text.split(" ")]


class Cost:
    """A cost that rises with the time. It never changes."""

    def __init__(self, steps):
        check_steps(steps)
        self._steps = tuple(steps)

    @classmethod
    def read(cls, text):
        """Return the cost with such a text."""
        return cls(read_steps(text))

    @property
    def steps(self):
        """The tuple of the steps, each a tuple of a time and of the cost from then on."""
        return self._steps

    def at(self, time):
        """Return the cost at a time."""
        check_number(time)
        return cost_at(self._steps, time)

    def latest(self, bound):
        """Return the greatest time at which the cost is at most the bound.

        It is -1 if there is no such time, and None if there is no greatest one.
        """
        check_number(bound)
        for start, cost in self._steps:
            if cost > bound:
                return start - 1
        return None

    def later(self, by):
        """Return the cost that comes so much later."""
        check_number(by)
        return Cost([(start + by, cost) for start, cost in self._steps])

    def __add__(self, other):
        return Cost(sum_steps(self._steps, other._steps))

    def __or__(self, other):
        return Cost(greater_steps(self._steps, other._steps))

    def __eq__(self, other):
        return isinstance(other, Cost) and self._steps == other._steps

    def __str__(self):
        if not self._steps:
            return "free"
        return " ".join([f"{start}:{cost}" for start, cost in self._steps])
