"""Scaled, restricted and otherwise changed systems, products of two systems, and policies side by side."""

from hindcost.errors import InvalidOperation, InvalidPolicy, TooLarge
from hindcost.helpers import are_integers_from, check_integer_from, is_ascending
from hindcost.policies.policies import MAX_MEMORIES, check_policy
from hindcost.systems.systems import (
    MAX_COST, MAX_REQUESTS, MAX_STATES, check_request, check_state, check_system, fits_costs
)

MAX_FACTOR = 1000


def scaled(system, factor):
    """Return the system with all costs multiplied by the factor."""
    check_system(system)
    check_integer_from(factor, 1, MAX_FACTOR)
    switching, requests, start = system
    tables = multiplied(switching, factor), multiplied(requests, factor)
    for table in tables:
        check_costs(table)
    return tables + (start,)


def without_request(system, request):
    """Return the system without the request."""
    check_system(system)
    check_request(system, request)
    switching, requests, start = system
    if len(requests) == 1:
        raise InvalidOperation("no request would be left")
    return switching, requests[:request] + requests[request + 1:], start


def with_request(system, costs):
    """Return the system with one more request at the end."""
    check_system(system)
    switching, requests, start = system
    if not fits_costs(len(switching), costs):
        raise InvalidOperation("not a request of the system")
    if len(requests) == MAX_REQUESTS:
        raise TooLarge(MAX_REQUESTS)
    return switching, requests + (costs,), start


def with_start(system, state):
    """Return the system with this start."""
    check_system(system)
    check_state(system, state)
    return system[0], system[1], state


def restricted(system, states):
    """Return the restriction of the system to the states."""
    check_system(system)
    switching, requests, start = system
    if not are_integers_from(states, 0, len(switching) - 1) or not is_ascending(states):
        raise InvalidOperation("not an ascending tuple of states")
    if len(states) < 2 or start not in states:
        raise InvalidOperation("fewer than two states, or without the start")
    kept = chosen(requests, states)
    for costs in kept:
        if not fits_costs(len(states), costs):
            raise InvalidOperation("a request has no allowed state among the states")
    return chosen([switching[state] for state in states], states), kept, states.index(start)


def product(first, second):
    """Return the product of the two systems."""
    check_system(first)
    check_system(second)
    return product_of(first, second)


def side_by_side(first_system, first_policy, second_system, second_policy):
    """Return the policy of the product that runs both policies."""
    check_part(first_system, first_policy)
    check_part(second_system, second_policy)
    # The product is made only for its errors.
    product_of(first_system, second_system)
    _, states, moves, first = first_policy
    _, other_states, other_moves, other_first = second_policy
    many = len(other_states)
    if len(states) * many > MAX_MEMORIES:
        raise TooLarge(MAX_MEMORIES)
    other_size = len(second_system[0])
    both_states = tuple([state * other_size + other for state in states for other in other_states])
    pairs = [(one, other) for one in range(len(states)) for other in range(many)]
    both_moves = tuple([
        tuple([target * many + other for target in moves[one]] + [one * many + target for target in other_moves[other]])
        for one, other in pairs
    ])
    return 0, both_states, both_moves, first * many + other_first


def multiplied(table, factor):
    """Return the table with all numbers multiplied by the factor."""
    return tuple([tuple([None if cost is None else cost * factor for cost in row]) for row in table])


def check_costs(table):
    """Raise TooLarge if a cost of the table is too great."""
    for row in table:
        for cost in row:
            if cost is not None and cost > MAX_COST:
                raise TooLarge(MAX_COST)


def chosen(rows, states):
    """Return a tuple of the rows, each with the entries for these states alone."""
    return tuple([tuple([row[state] for state in states]) for row in rows])


def check_part(system, policy):
    """Raise an error if the value is not a system, or the other value not a policy of it without look-ahead."""
    check_system(system)
    check_policy(system, policy)
    if policy[0] != 0:
        raise InvalidPolicy("not a policy without look-ahead")


def product_of(first, second):
    """Return the product; raise TooLarge for the first limit that it exceeds."""
    switching, requests, start = first
    other_switching, other_requests, other_start = second
    size = len(switching)
    other_size = len(other_switching)
    if size * other_size > MAX_STATES:
        raise TooLarge(MAX_STATES)
    if len(requests) + len(other_requests) > MAX_REQUESTS:
        raise TooLarge(MAX_REQUESTS)
    pairs = [(one, other) for one in range(size) for other in range(other_size)]
    both_switching = tuple([
        tuple([switching[one][target] + other_switching[other][other_target] for target, other_target in pairs])
        for one, other in pairs
    ])
    check_costs(both_switching)
    rows = [tuple([costs[one] for one, other in pairs]) for costs in requests]
    other_rows = [tuple([costs[other] for one, other in pairs]) for costs in other_requests]
    return both_switching, tuple(rows + other_rows), start * other_size + other_start
