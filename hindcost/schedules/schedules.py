"""Schedules, their costs and the optimum."""

from hindcost.errors import InvalidSchedule
from hindcost.systems.systems import check_sequence, check_system, fits_state
from hindcost.helpers import is_tuple_of
from hindcost.work.functions import advance_work, begin_work


def is_schedule(system, sequence, value):
    """Return whether the value is a schedule for the sequence."""
    check_system(system)
    check_sequence(system, sequence)
    return fits_schedule(system, sequence, value)


def schedule_cost(system, sequence, schedule):
    """Return the cost of the schedule for the sequence."""
    check_system(system)
    check_sequence(system, sequence)
    if not fits_schedule(system, sequence, schedule):
        raise InvalidSchedule("not a schedule for the sequence")
    return cost_of_schedule(system, sequence, schedule)


def optimum(system, sequence):
    """Return the least cost of a schedule for the sequence."""
    check_system(system)
    check_sequence(system, sequence)
    return optima_of_prefixes(system, sequence)[-1]


def best_schedule(system, sequence):
    """Return the smallest optimal schedule for the sequence."""
    check_system(system)
    check_sequence(system, sequence)
    return smallest_best_schedule(system, sequence)


def best_schedule_count(system, sequence):
    """Return the number of optimal schedules for the sequence."""
    check_system(system)
    check_sequence(system, sequence)
    rests = costs_to_go(system, sequence)
    counts = [1 for _ in system[0]]
    for at in range(len(sequence) - 1, -1, -1):
        choices = [best_states(system, state, sequence[at], rests[at + 1]) for state in range(len(counts))]
        counts = [sum([counts[target] for target in targets]) for targets in choices]
    return counts[system[2]]


def prefix_optima(system, sequence):
    """Return the optima of all prefixes of the sequence, the empty one first."""
    check_system(system)
    check_sequence(system, sequence)
    return optima_of_prefixes(system, sequence)


def fits_schedule(system, sequence, value):
    """Return whether the value is a schedule for the sequence."""
    if not is_tuple_of(value, len(sequence)):
        return False
    for request, state in zip(sequence, value):
        if not fits_state(system, state) or system[1][request][state] is None:
            return False
    return True


def cost_of_schedule(system, sequence, schedule):
    """Return the sum of all switching costs and request costs."""
    switching, requests, state = system
    total = 0
    for request, target in zip(sequence, schedule):
        total += switching[state][target] + requests[request][target]
        state = target
    return total


def optima_of_prefixes(system, sequence):
    """Return the smallest entries of the work functions after all prefixes."""
    work = begin_work(system)
    optima = [min(work)]
    for request in sequence:
        work = advance_work(system, work, request)
        optima.append(min(work))
    return tuple(optima)


def smallest_best_schedule(system, sequence):
    """Return the smallest optimal schedule for the sequence."""
    rests = costs_to_go(system, sequence)
    state = system[2]
    schedule = []
    for at in range(len(sequence)):
        state = best_states(system, state, sequence[at], rests[at + 1])[0]
        schedule.append(state)
    return tuple(schedule)


def costs_to_go(system, sequence):
    """Return a row for each number of served requests: the least cost of serving the rest from each state."""
    rest = [0 for _ in system[0]]
    rests = [rest]
    for request in sequence[::-1]:
        rest = [min(choice_costs(system, state, request, rest).values()) for state in range(len(rest))]
        rests.append(rest)
    return rests[::-1]


def best_states(system, state, request, rest):
    """Return the states in which the request is best served, ascending."""
    costs = choice_costs(system, state, request, rest)
    least = min(costs.values())
    return [target for target in costs if costs[target] == least]


def choice_costs(system, state, request, rest):
    """Return a dict from each allowed state, ascending, to the cost of serving the request there and then the rest."""
    switching, requests, _ = system
    costs = requests[request]
    allowed = [target for target in range(len(costs)) if costs[target] is not None]
    return {target: switching[state][target] + costs[target] + rest[target] for target in allowed}
