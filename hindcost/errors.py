"""The errors of the package."""


class HindcostError(ValueError):
    """The base of all errors that take a message."""


class InvalidSystem(HindcostError):
    """A value is not a system."""


class InvalidSteps(HindcostError):
    """A value is not a tuple of steps, or its steps give no switching table."""


class InvalidSequence(HindcostError):
    """A value is not a sequence of the system, or not a window."""


class InvalidSchedule(HindcostError):
    """A value is not a schedule for the sequence."""


class InvalidWork(HindcostError):
    """A value is not a work function, or not a form."""


class InvalidPolicy(HindcostError):
    """A value is not a policy of the system."""


class InvalidOffline(HindcostError):
    """A value is not an offline system for the system."""


class InvalidPosition(HindcostError):
    """A value is not a position."""


class InvalidInstance(HindcostError):
    """A value does not describe an instance."""


class InvalidOperation(HindcostError):
    """An operation is not possible with this value or at this moment."""


class PendingRequests(HindcostError):
    """An operation needs that no request is pending."""


class InvalidCommand(HindcostError):
    """A line is not a command that can be run now."""


class ParseError(HindcostError):
    """A text is not the text of such a value."""


# The messages below are fixed: a message with the value in it could fail for a value that cannot be written.


class UnknownState(IndexError):
    """A value is not a state of the system."""

    def __init__(self, state):
        IndexError.__init__(self, "not a state of the system")
        self.state = state


class UnknownRequest(LookupError):
    """A value is not a request number of the system."""

    def __init__(self, request):
        LookupError.__init__(self, "not a request number of the system")
        self.request = request


class InvalidNumber(KeyError):
    """A value is not a number as it must be."""

    def __init__(self, value):
        KeyError.__init__(self, "not a number as it must be")
        self.value = value


class TooLarge(OverflowError):
    """Something has more parts than the limit."""

    def __init__(self, limit):
        OverflowError.__init__(self, "more than the limit")
        self.limit = limit


class BelowRatio(ArithmeticError):
    """A ratio is less than the ratio of the policy, which is kept."""

    def __init__(self, ratio):
        ArithmeticError.__init__(self, "less than the ratio of the policy")
        self.ratio = ratio


class NothingToUndo(RuntimeError):
    """There are fewer operations than the count."""

    def __init__(self, count):
        RuntimeError.__init__(self, "fewer operations than the count")
        self.count = count
