"""Policies that are built from configurations: from what a policy keeps in mind between two requests."""

from hindcost.helpers import explore
from hindcost.policies.policies import MAX_MEMORIES, windows_up_to


def policy_of_configurations(lookahead, requests, first, follow, state_of):
    """Return the policy whose memories are the configurations that windows, full or not, lead to from the first one.

    `follow` takes a configuration and a window and returns the next configuration, `state_of` returns the state of a
    configuration. The memories are numbered in the order of a breadth-first search, windows in their order. If there
    are more than MAX_MEMORIES, TooLarge is raised.
    """
    every = windows_up_to(requests, lookahead + 1)
    found, rows = explore(
        [first], lambda configuration: [(follow(configuration, window),) for window in every], MAX_MEMORIES
    )
    states = tuple([state_of(configuration) for configuration in found])
    return lookahead, states, tuple([tuple([edge[0] for edge in row]) for row in rows]), 0
