"""Systems and their sequences."""

from hindcost.errors import InvalidSequence, InvalidSteps, InvalidSystem, UnknownRequest, UnknownState
from hindcost.helpers import check_integer_from, is_integer_from, is_tuple_of

MAX_STATES = 10
MAX_REQUESTS = 8
MAX_COST = 1000
MAX_LENGTH = 400


def is_system(value):
    """Return whether the value is a system."""
    if not is_tuple_of(value, 3):
        return False
    switching, requests, start = value
    if not fits_switching(switching):
        return False
    size = len(switching)
    return fits_requests(size, requests) and is_integer_from(start, 0, size - 1)


def state_count(system):
    """Return the number of states."""
    check_system(system)
    return len(system[0])


def request_count(system):
    """Return the number of requests."""
    check_system(system)
    return len(system[1])


def switching_cost(system, first, second):
    """Return the cost of switching from the first state to the second one."""
    check_system(system)
    check_state(system, first)
    check_state(system, second)
    return system[0][first][second]


def request_cost(system, request, state):
    """Return the cost of the request in the state, None if the state is not allowed."""
    check_system(system)
    check_request(system, request)
    check_state(system, state)
    return system[1][request][state]


def allowed_states(system, request):
    """Return the allowed states for the request, ascending."""
    check_system(system)
    check_request(system, request)
    costs = system[1][request]
    return tuple([state for state in range(len(costs)) if costs[state] is not None])


def is_sequence(system, value):
    """Return whether the value is a sequence of the system."""
    check_system(system)
    return fits_sequence(system, value)


def switching_from_steps(size, steps):
    """Return the switching table of the least sums of costs of steps."""
    check_integer_from(size, 2, MAX_STATES)
    if not fits_steps(size, steps):
        raise InvalidSteps("not a tuple of steps")
    sums = least_sums(size, steps)
    for row in sums:
        if max(row) > MAX_COST:
            raise InvalidSteps("a state cannot be reached, or not for a cost within the limit")
    return tuple([tuple(row) for row in sums])


def fits_switching(value):
    """Return whether the value is a switching table."""
    if not isinstance(value, tuple) or not 2 <= len(value) <= MAX_STATES:
        return False
    for state in range(len(value)):
        if not fits_switching_row(len(value), state, value[state]):
            return False
    return holds_triangles(value)


def fits_switching_row(size, state, row):
    """Return whether the row can hold the switching costs from the state."""
    if not is_tuple_of(row, size):
        return False
    for target in range(size):
        least, greatest = (0, 0) if target == state else (1, MAX_COST)
        if not is_integer_from(row[target], least, greatest):
            return False
    return True


def holds_triangles(switching):
    """Return whether no switch is cheaper by way of another state."""
    size = len(switching)
    for first in range(size):
        for between in range(size):
            for last in range(size):
                if switching[first][last] > switching[first][between] + switching[between][last]:
                    return False
    return True


def fits_requests(size, value):
    """Return whether the value is a tuple of requests for this many states."""
    if not isinstance(value, tuple) or not 1 <= len(value) <= MAX_REQUESTS:
        return False
    for costs in value:
        if not fits_costs(size, costs):
            return False
    return True


def fits_costs(size, value):
    """Return whether the value is a request for this many states."""
    if not is_tuple_of(value, size):
        return False
    allowed = 0
    for cost in value:
        if cost is not None:
            if not is_integer_from(cost, 0, MAX_COST):
                return False
            allowed += 1
    return allowed > 0


def fits_state(system, value):
    """Return whether the value is a state of the system."""
    return is_integer_from(value, 0, len(system[0]) - 1)


def fits_request(system, value):
    """Return whether the value is a request number of the system."""
    return is_integer_from(value, 0, len(system[1]) - 1)


def fits_request_tuple(system, value):
    """Return whether the value is a tuple of request numbers, of any length."""
    if not isinstance(value, tuple):
        return False
    for request in value:
        if not fits_request(system, request):
            return False
    return True


def fits_sequence(system, value):
    """Return whether the value is a sequence of the system."""
    return fits_request_tuple(system, value) and len(value) <= MAX_LENGTH


def check_system(system):
    """Raise InvalidSystem if the value is not a system."""
    if not is_system(system):
        raise InvalidSystem("not a system")


def check_state(system, state):
    """Raise UnknownState if the value is not a state of the system."""
    if not fits_state(system, state):
        raise UnknownState(state)


def check_request(system, request):
    """Raise UnknownRequest if the value is not a request number of the system."""
    if not fits_request(system, request):
        raise UnknownRequest(request)


def check_sequence(system, sequence):
    """Raise InvalidSequence if the value is not a sequence of the system."""
    if not fits_sequence(system, sequence):
        raise InvalidSequence("not a sequence of the system")


def fits_steps(size, value):
    """Return whether the value is a tuple of steps between this many states."""
    if not isinstance(value, tuple):
        return False
    for step in value:
        if not fits_step(size, step):
            return False
    return True


def fits_step(size, value):
    """Return whether the value is a step between two different states."""
    if not is_tuple_of(value, 3):
        return False
    first, last, cost = value
    if not is_integer_from(first, 0, size - 1) or not is_integer_from(last, 0, size - 1):
        return False
    return first != last and is_integer_from(cost, 1, MAX_COST)


def least_sums(size, steps):
    """Return a list of lists: the least sums of steps, where more than MAX_COST stands for all greater ones."""
    # A sum that is too great and a state that cannot be reached are the same fault, so one number stands for both.
    too_far = MAX_COST + 1
    sums = [[0 if first == last else too_far for last in range(size)] for first in range(size)]
    for first, last, cost in steps:
        sums[first][last] = min(sums[first][last], cost)
    for between in range(size):
        for first in range(size):
            for last in range(size):
                sums[first][last] = min(sums[first][last], sums[first][between] + sums[between][last])
    return sums
