"""Desks, which keep rules that can be changed."""

from tailpick.errors import NothingToUndo
from tailpick.orders import is_order
from tailpick.plans import Plan
from tailpick.verdicts import judge


def changed(rules, change):
    """Return the rules after a change that is written as a tuple."""
    word = change[0]
    if word == "need":
        return rules.with_need(change[1], change[2])
    if word == "limit":
        return rules.with_limit(change[1], change[2])
    if word == "drop need":
        return rules.without_need(change[1])
    return rules.without_limit(change[1])


class Desk:
    """Rules that can be changed, and the changes that can be taken back."""

    def __init__(self, rules):
        self._rules = rules
        # The rules before each change: rules never change themselves.
        self._past = []

    @property
    def rules(self):
        """The rules as they are now."""
        return self._rules

    def __len__(self):
        return len(self._past)

    def __contains__(self, order):
        return is_order(self._rules, order)

    def verdict(self):
        """Return the verdict of the rules as they are now."""
        return judge(self._rules)

    def plan(self, durations, costs):
        """Return the plan with the rules as they are now."""
        return Plan(self._rules, durations, costs)

    def put_need(self, job, alternatives):
        """Give the rules one need more."""
        self._turn_to(self._rules.with_need(job, alternatives))

    def put_limit(self, job, wanted):
        """Give the rules one limit more."""
        self._turn_to(self._rules.with_limit(job, wanted))

    def drop_need(self, number):
        """Leave out the need that has this number."""
        self._turn_to(self._rules.without_need(number))

    def drop_limit(self, number):
        """Leave out the limit that has this number."""
        self._turn_to(self._rules.without_limit(number))

    def _turn_to(self, rules):
        """Make one change: from now on these are the rules."""
        self._past.append(self._rules)
        self._rules = rules

    def undo(self):
        """Take back the last change that has not been taken back."""
        if not self._past:
            raise NothingToUndo()
        self._rules = self._past.pop()

    def tried(self, changes):
        """Return the verdict that there would be after these changes. Nothing is changed."""
        rules = self._rules
        for change in changes:
            rules = changed(rules, change)
        return judge(rules)
