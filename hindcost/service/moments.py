"""Moments: what a service is between two operations, apart from its lists."""

from hindcost.ratios.positions import move_and_cost
from hindcost.work.forms import advance_form


class Moment:
    """The present phase and segment, and what changes in them. A moment is never changed, so it can be restored.

    `form` is the form of the offline system after all requests that arrived, `held` the memory of the policy,
    `waiting` has the pending requests, `paid` is the sum of all costs and `least` the sum of all increases.
    """

    def __init__(self, phase, segment, form, held, waiting, closed, paid, least):
        self.phase = phase
        self.segment = segment
        self.form = form
        self.held = held
        self.waiting = waiting
        self.closed = closed
        self.paid = paid
        self.least = least

    def place(self):
        """Return the state of the memory."""
        return self.segment.policy[1][self.held]


def begin_segment(phase, segment, form):
    """Return the moment at which the segment begins."""
    return Moment(phase, segment, form, segment.policy[3], (), False, segment.paid_before, segment.least_before)


def receive(moment, request):
    """Return the moment at which the request is the last one that waits."""
    form, increase = advance_form(moment.phase.base, moment.form, request)
    return Moment(
        moment.phase, moment.segment, form, moment.held, moment.waiting + (request,), moment.closed, moment.paid,
        moment.least + increase
    )


def serve_first(moment):
    """Return the moment at which the first of the waiting requests is served, with all of them as the window."""
    target, cost = move_and_cost(moment.phase.system, moment.segment.policy, moment.held, moment.waiting)
    return Moment(
        moment.phase, moment.segment, moment.form, target, moment.waiting[1:], moment.closed, moment.paid + cost,
        moment.least
    )


def close(moment):
    """Return the moment at which no further requests may arrive."""
    return Moment(
        moment.phase, moment.segment, moment.form, moment.held, moment.waiting, True, moment.paid, moment.least
    )
