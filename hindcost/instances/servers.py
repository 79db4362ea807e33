"""Servers on a line, and the policies that choose which of them move."""

from hindcost.errors import TooLarge
from hindcost.helpers import check_integer_from
from hindcost.instances.tables import check_word, numbers_of, rising_tuples, table_of, visits
from hindcost.policies.configurations import policy_of_configurations
from hindcost.systems.systems import MAX_STATES

MAX_LAST = 4
MAX_SERVERS = 3

WORDS = ("greedy", "double")


def server_states(last, servers):
    """Return all states, as tuples of points."""
    return checked_states(last, servers)


def server_system(last, servers):
    """Return the server system."""
    states = checked_states(last, servers)
    return table_of(states, distance_between), visits(states, last + 1), 0


def server_policy(last, servers, word):
    """Return the server policy of this name."""
    states = checked_states(last, servers)
    check_word(word, WORDS)
    numbers = numbers_of(states)
    return policy_of_configurations(
        0, last + 1, states[0],
        lambda points, window: next_points(word, points, window[0]),
        lambda points: numbers[points]
    )


def checked_states(last, servers):
    """Return all states, or raise the error for the first of the two numbers that is not as it must be."""
    check_integer_from(last, 1, MAX_LAST)
    check_integer_from(servers, 1, MAX_SERVERS)
    states = rising_tuples(last + 1, servers, 0)
    if len(states) > MAX_STATES:
        raise TooLarge(MAX_STATES)
    return states


def distance_between(old, new):
    """Return the sum of the differences of the first points, of the second points and so on."""
    return sum([abs(point - other) for point, other in zip(old, new)])


def next_points(word, points, target):
    """Return the points of the servers when a request for the target is served."""
    if target in points:
        return points
    left = [point for point in points if point < target]
    right = [point for point in points if point > target]
    if word == "double" and left and right:
        return closed_in(points, max(left), min(right), target)
    # Of a left and a right point that are equally near, the left one is the smaller one.
    return moved(points, min(points, key=lambda point: (abs(point - target), point)), target)


def closed_in(points, left, right, target):
    """Return the points after a server from each side has moved towards the target, both equally far."""
    step = min(target - left, right - target)
    return moved(moved(points, left, left + step), right, right - step)


def moved(points, source, target):
    """Return the points, in non-descending order, after a server has moved from the source to the target."""
    at = points.index(source)
    return tuple(sorted(points[:at] + (target,) + points[at + 1:]))
