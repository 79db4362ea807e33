"""Policies and their windows."""

from hindcost.errors import InvalidPolicy, InvalidSequence
from hindcost.systems.systems import check_system, fits_request_tuple, fits_state
from hindcost.helpers import check_integer_from, is_integer_from, is_tuple_of

MAX_LOOKAHEAD = 2
MAX_MEMORIES = 1000
MAX_MOVES = 20000


def windows(system, lookahead):
    """Return the windows for the look-ahead in their order."""
    check_system(system)
    check_integer_from(lookahead, 0, MAX_LOOKAHEAD)
    return windows_up_to(len(system[1]), lookahead + 1)


def is_policy(system, value):
    """Return whether the value is a policy of the system."""
    check_system(system)
    return fits_policy(system, value)


def next_memory(system, policy, memory, window):
    """Return the memory to which the window leads from the memory."""
    check_system(system)
    check_policy(system, policy)
    lookahead, states, moves, _ = policy
    check_integer_from(memory, 0, len(states) - 1)
    if not fits_request_tuple(system, window) or not 1 <= len(window) <= lookahead + 1:
        raise InvalidSequence("not a window for the look-ahead of the policy")
    return moves[memory][window_number(len(system[1]), window)]


def tuples_of_length(requests, length):
    """Return all tuples of this many out of so many requests, ascending."""
    rows = [()]
    for _ in range(length):
        rows = [row + (request,) for row in rows for request in range(requests)]
    return tuple(rows)


def windows_up_to(requests, longest):
    """Return all windows of so many requests with 1 to longest entries, in their order."""
    rows = []
    for length in range(1, longest + 1):
        rows.extend(list(tuples_of_length(requests, length)))
    return tuple(rows)


def window_number(requests, window):
    """Return the index of the window among all windows of so many requests."""
    # Beginning at -1 and adding 1 before each step counts the shorter windows, too.
    number = -1
    for request in window:
        number = (number + 1) * requests + request
    return number


def fits_policy(system, value):
    """Return whether the value is a policy of the system."""
    if not is_tuple_of(value, 4):
        return False
    lookahead, states, moves, first = value
    if not is_integer_from(lookahead, 0, MAX_LOOKAHEAD) or not fits_memory_states(system, states):
        return False
    if not is_integer_from(first, 0, len(states) - 1) or states[first] != system[2]:
        return False
    return fits_moves(system, lookahead, states, moves)


def fits_memory_states(system, value):
    """Return whether the value is a tuple of states for memories."""
    if not isinstance(value, tuple) or not 1 <= len(value) <= MAX_MEMORIES:
        return False
    for state in value:
        if not fits_state(system, state):
            return False
    return True


def fits_moves(system, lookahead, states, value):
    """Return whether the value is a table of moves between memories with these states."""
    heads = [window[0] for window in windows_up_to(len(system[1]), lookahead + 1)]
    if not is_tuple_of(value, len(states)) or len(states) * len(heads) > MAX_MOVES:
        return False
    for row in value:
        if not fits_move_row(system, heads, states, row):
            return False
    return True


def fits_move_row(system, heads, states, row):
    """Return whether the row has a next memory for each window, of which only the first request is given."""
    if not is_tuple_of(row, len(heads)):
        return False
    for head, memory in zip(heads, row):
        if not is_integer_from(memory, 0, len(states) - 1) or system[1][head][states[memory]] is None:
            return False
    return True


def check_policy(system, policy):
    """Raise InvalidPolicy if the value is not a policy of the system."""
    if not fits_policy(system, policy):
        raise InvalidPolicy("not a policy of the system")


def check_two_policies(system, first, second):
    """Raise InvalidPolicy if one of the values is not a policy of the system, or if their look-aheads differ."""
    check_policy(system, first)
    check_policy(system, second)
    if first[0] != second[0]:
        raise InvalidPolicy("not a policy with the look-ahead of the first one")
