"""Work functions: the least costs of serving a sequence and ending in each state."""

from hindcost.errors import InvalidWork
from hindcost.systems.systems import check_request, check_sequence, check_system
from hindcost.helpers import is_integer, is_tuple_of


def is_work(system, value):
    """Return whether the value is a work function of the system."""
    check_system(system)
    return fits_work(system, value)


def first_work(system):
    """Return the first work function."""
    check_system(system)
    return begin_work(system)


def next_work(system, work, request):
    """Return the work function to which the request leads."""
    check_system(system)
    check_work(system, work)
    check_request(system, request)
    return advance_work(system, work, request)


def work_after(system, sequence):
    """Return the work function after the sequence."""
    check_system(system)
    check_sequence(system, sequence)
    work = begin_work(system)
    for request in sequence:
        work = advance_work(system, work, request)
    return work


def form_of(system, work):
    """Return the form of the work function and its smallest entry."""
    check_system(system)
    check_work(system, work)
    return split_work(work)


def fits_work(system, value):
    """Return whether the value is a work function of the system."""
    switching = system[0]
    size = len(switching)
    if not is_tuple_of(value, size):
        return False
    for entry in value:
        if not is_integer(entry) or entry < 0:
            return False
    for first in range(size):
        for last in range(size):
            if value[last] > value[first] + switching[first][last]:
                return False
    return True


def check_work(system, work):
    """Raise InvalidWork if the value is not a work function of the system."""
    if not fits_work(system, work):
        raise InvalidWork("not a work function of the system")


def begin_work(system):
    """Return the work function before all requests."""
    switching, _, start = system
    return switching[start]


def advance_work(system, work, request):
    """Return the work function after the request."""
    switching, requests, _ = system
    costs = requests[request]
    allowed = [state for state in range(len(costs)) if costs[state] is not None]
    served = [(work[state] + costs[state], switching[state]) for state in allowed]
    return tuple([min([cost + row[last] for cost, row in served]) for last in range(len(switching))])


def split_work(work):
    """Return the form of the work function and its smallest entry."""
    smallest = min(work)
    return tuple([entry - smallest for entry in work]), smallest
