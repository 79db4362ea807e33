"""A service that runs a policy on requests as they arrive, and reports what it guarantees."""

from hindcost.errors import InvalidNumber, InvalidOperation, NothingToUndo, PendingRequests, TooLarge
from hindcost.helpers import is_integer
from hindcost.policies.policies import check_policy
from hindcost.ratios.fractions import make_fraction
from hindcost.ratios.positions import checked_base
from hindcost.schedules.schedules import smallest_best_schedule
from hindcost.service.moments import begin_segment, close, receive, serve_first
from hindcost.service.segments import Phase, segment_of
from hindcost.systems.systems import check_request
from hindcost.work.functions import begin_work

MAX_ARRIVALS = 400


class Service:
    """Requests arrive one by one and are served by the policy; the policy can be replaced, and phases be begun."""

    def __init__(self, system, policy, *, offline=None):
        self._created = (system, policy, offline)
        self._now = first_moment(system, policy, offline, 0, 0, 0, 0)
        # All requests that arrived, and the states in which requests were served, in all phases.
        self._arrived = []
        self._served = []
        self._log = []
        # For each operation of the log the moment before it, and the lengths of the two lists then.
        self._before = []

    def __len__(self):
        return len(self._served)

    def __str__(self):
        return ", ".join([
            f"service: {len(self)} served", f"{len(self.pending())} pending", f"cost {self.cost()}",
            f"optimum {self.optimum()}"
        ])

    def __eq__(self, other):
        if not isinstance(other, Service):
            return False
        return self._created == other._created and self._log == other._log

    def arrive(self, request):
        """Let the request arrive and return how many requests were served by it."""
        now = self._now
        if now.closed:
            raise InvalidOperation("the service is closed")
        check_request(now.phase.system, request)
        if len(self._arrived) - now.phase.arrived_before == MAX_ARRIVALS:
            raise TooLarge(MAX_ARRIVALS)
        after = receive(now, request)
        self._note(("arrive", request), after)
        self._arrived.append(request)
        return self._serve(len(after.waiting) - after.segment.policy[0])

    def finish(self):
        """Serve all pending requests and return how many they were."""
        now = self._now
        self._note(("finish",), close(now) if now.waiting else now)
        return self._serve(len(now.waiting))

    def replace(self, policy):
        """Replace the policy."""
        self._check_nothing_pending()
        now = self._now
        system = now.phase.system
        check_policy(system, policy)
        paid = now.paid + system[0][now.place()][system[2]]
        segment = segment_of(now.phase, policy, now.form, paid, now.least)
        self._note(("replace", policy), begin_segment(now.phase, segment, now.form))

    def begin(self, system, policy, *, offline=None):
        """Begin a new phase."""
        self._check_nothing_pending()
        now = self._now
        after = first_moment(system, policy, offline, len(self._arrived), len(self._served), now.paid, now.least)
        self._note(("begin", system, policy, offline), after)

    def undo(self, *, count=1):
        """Undo the last operations and return the length of the log."""
        if not is_integer(count) or count < 0:
            raise InvalidNumber(count)
        kept = len(self._log) - count
        if kept < 0:
            raise NothingToUndo(count)
        if count > 0:
            self._now, arrived, served = self._before[kept]
            del self._arrived[arrived:], self._served[served:], self._log[kept:], self._before[kept:]
        return kept

    def cost(self):
        """Return the sum of all costs that were paid."""
        return self._now.paid

    def optimum(self):
        """Return the sum of the optima of all phases."""
        return self._now.least

    def current_ratio(self):
        """Return the ratio of the present segment."""
        return self._now.segment.ratio

    def guarantee(self):
        """Return the fraction that the cost does not exceed, or None if the ratio is infinite."""
        return self._now.segment.most(self._now.least)

    def slack(self):
        """Return the guarantee minus the cost, or None if the ratio is infinite."""
        most = self.guarantee()
        if most is None:
            return None
        p, q = most
        return make_fraction(p - q * self._now.paid, q)

    def schedule(self):
        """Return the states in which the requests of the present phase were served."""
        return tuple(self._served[self._now.phase.served_before:])

    def best_schedule(self):
        """Return the smallest optimal schedule of the offline system for the requests of the present phase."""
        phase = self._now.phase
        return smallest_best_schedule(phase.base, tuple(self._arrived[phase.arrived_before:]))

    def pending(self):
        """Return the pending requests."""
        return self._now.waiting

    def memory(self):
        """Return the present memory."""
        return self._now.held

    def current_state(self):
        """Return the state of the present memory."""
        return self._now.place()

    def log(self):
        """Return the operations that have not been undone."""
        return tuple(self._log)

    def _check_nothing_pending(self):
        """Raise PendingRequests if requests are pending."""
        if self._now.waiting:
            raise PendingRequests("requests are pending")

    def _note(self, operation, after):
        """Add the operation to the log, and go on at the moment after it."""
        self._before.append((self._now, len(self._arrived), len(self._served)))
        self._log.append(operation)
        self._now = after

    def _serve(self, count):
        """Serve so many of the pending requests, none if the number is below 0, and return how many were served."""
        served = max(count, 0)
        for _ in range(served):
            self._now = serve_first(self._now)
            self._served.append(self._now.place())
        return served


def first_moment(system, policy, offline, arrived, served, paid, least):
    """Return the moment at which a phase begins; raise the error for the first value that is not as it must be."""
    base = checked_base(system, policy, offline)
    form = begin_work(base)
    phase = Phase(system, base, arrived, served)
    return begin_segment(phase, segment_of(phase, policy, form, paid, least), form)
