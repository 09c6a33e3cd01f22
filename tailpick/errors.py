"""The errors of the package.

Python itself keeps the arguments of an error for its message. No message is
written here, since an argument may be any value, and writing it might fail.
"""


class TailError(ValueError):
    """The base of all errors of the package."""


class BadName(TailError):
    """A string is not a name."""

    def __init__(self, name):
        self.name = name


class DuplicateName(TailError):
    """A name stands twice where each name may stand once."""

    def __init__(self, name):
        self.name = name


class UnknownName(TailError):
    """There is no job of this name."""

    def __init__(self, name):
        self.name = name


class BadCount(TailError):
    """There are too few or too many of something."""

    def __init__(self, count):
        self.count = count


class BadText(TailError):
    """A text is not made as it has to be."""

    def __init__(self, text):
        self.text = text


class BadSet(TailError):
    """A value is not such a set of jobs as is asked for."""

    def __init__(self, value):
        self.value = value


class BadOrder(TailError):
    """A value is not an order of the jobs."""

    def __init__(self, value):
        self.value = value


class NotAllowed(TailError):
    """An order has a beginning that is not an allowed set."""

    def __init__(self, value):
        self.value = value


class NoOrder(TailError):
    """The rules allow no order; the value is as far as one gets."""

    def __init__(self, value):
        self.value = value


class BadNumber(TailError):
    """A value is not such a number as is asked for."""

    def __init__(self, value):
        self.value = value


class BadSteps(TailError):
    """A value is not a step of a rising cost."""

    def __init__(self, value):
        self.value = value


class IsTame(TailError):
    """The rules are tame where wild ones are asked for."""


class NotTame(TailError):
    """The rules are wild where tame ones are asked for; the value is a triple."""

    def __init__(self, value):
        self.value = value


class UnlikeJobs(TailError):
    """Names are not those of the jobs."""

    def __init__(self, names):
        self.names = names


class NothingToUndo(TailError):
    """There is no change that could be taken back."""
