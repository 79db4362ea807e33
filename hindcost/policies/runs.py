"""Runs of a policy on a sequence."""

from hindcost.policies.policies import check_policy, window_number
from hindcost.schedules.schedules import cost_of_schedule
from hindcost.systems.systems import check_sequence, check_system


def run_memories(system, policy, sequence):
    """Return the memories after each request."""
    check_run(system, policy, sequence)
    return memories_of_run(system, policy, sequence)


def run_schedule(system, policy, sequence):
    """Return the schedule of the policy for the sequence."""
    check_run(system, policy, sequence)
    return schedule_of_run(system, policy, sequence)


def run_cost(system, policy, sequence):
    """Return the cost of the policy's schedule for the sequence."""
    check_run(system, policy, sequence)
    return cost_of_schedule(system, sequence, schedule_of_run(system, policy, sequence))


def check_run(system, policy, sequence):
    """Raise the error for the first of the three values that is not as it must be."""
    check_system(system)
    check_policy(system, policy)
    check_sequence(system, sequence)


def memories_of_run(system, policy, sequence):
    """Return the memories after each request."""
    lookahead, _, moves, memory = policy
    memories = []
    for at in range(len(sequence)):
        window = sequence[at:at + lookahead + 1]
        memory = moves[memory][window_number(len(system[1]), window)]
        memories.append(memory)
    return tuple(memories)


def schedule_of_run(system, policy, sequence):
    """Return the states of the memories after each request."""
    states = policy[1]
    return tuple([states[memory] for memory in memories_of_run(system, policy, sequence)])
