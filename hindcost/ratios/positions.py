"""Positions of a policy beside the optimum of an offline system."""

from hindcost.errors import InvalidPosition, InvalidSequence
from hindcost.helpers import is_integer_from, is_tuple_of
from hindcost.policies.policies import check_policy, window_number
from hindcost.systems.offline import offline_for
from hindcost.systems.systems import check_request, check_system, fits_request_tuple, fits_sequence
from hindcost.tracks.tracks import Track, graph_of_track
from hindcost.work.forms import advance_form, check_form, fits_form
from hindcost.work.functions import begin_work

MAX_POSITIONS = 1000


def first_positions(system, policy, *, offline=None, form=None):
    """Return the first positions, ascending."""
    return tuple(checked_track(system, policy, offline, form).starts())


def is_position(system, policy, value, *, offline=None):
    """Return whether the value is a position of the policy."""
    base = checked_base(system, policy, offline)
    return fits_position(base, policy, value)


def arrive(system, policy, position, request, *, offline=None):
    """Return the next position, the cost and the increase of the arrival of the request."""
    base = checked_base(system, policy, offline)
    check_position(base, policy, position)
    check_request(system, request)
    return track_of_positions(system, base, policy, begin_work(base)).arrive_at(position, request)


def finish(system, policy, position, *, offline=None):
    """Return the sums of the costs and of the increases of finishing at the position."""
    base = checked_base(system, policy, offline)
    check_position(base, policy, position)
    return track_of_positions(system, base, policy, begin_work(base)).finish_at(position)


def position_after(system, policy, sequence, *, offline=None, form=None):
    """Return the position after the sequence, of which the last requests are pending."""
    track = checked_track(system, policy, offline, form)
    if not fits_sequence(system, sequence) or len(sequence) < track.lookahead:
        raise InvalidSequence("not a sequence with at least as many requests as the look-ahead")
    return track.place_after(sequence)


def reachable_positions(system, policy, *, offline=None, form=None):
    """Return the reachable positions, ascending."""
    graph = graph_of_positions(checked_track(system, policy, offline, form))
    return graph.ascending(graph.places)


def checked_base(system, policy, offline):
    """Return the offline system, or raise the error for the first of the values that is not as it must be."""
    check_system(system)
    base = offline_for(system, offline)
    check_policy(system, policy)
    return base


def checked_track(system, policy, offline, form):
    """Return the track of positions, or raise the error for the first of the values that is not as it must be."""
    check_system(system)
    base = offline_for(system, offline)
    begin = begin_work(base) if form is None else form
    check_form(base, begin)
    check_policy(system, policy)
    return track_of_positions(system, base, policy, begin)


def track_of_positions(system, base, policy, form):
    """Return the track of a policy that begins with the form of the offline system; its gains are the increases."""
    return Track(
        system, policy[0], (policy[3], form),
        lambda memory, before, window: serve_window(system, base, policy, memory, before, window)
    )


def graph_of_positions(track):
    """Return the graph of the reachable positions."""
    return graph_of_track(track, MAX_POSITIONS)


def serve_window(system, base, policy, memory, form, window):
    """Return the next memory, the next form, the cost and the increase of serving the window's first request."""
    target, cost = move_and_cost(system, policy, memory, window)
    following, increase = advance_form(base, form, window[0])
    return target, following, cost, increase


def move_and_cost(system, policy, memory, window):
    """Return the next memory, and the cost of the switch and of serving the window's first request."""
    _, states, moves, _ = policy
    switching, requests, _ = system
    target = moves[memory][window_number(len(requests), window)]
    state = states[target]
    return target, switching[states[memory]][state] + requests[window[0]][state]


def fits_position(base, policy, value):
    """Return whether the value is a position of the policy, beside the offline system."""
    if not is_tuple_of(value, 3):
        return False
    memory, form, pending = value
    if not is_integer_from(memory, 0, len(policy[1]) - 1) or not fits_form(base, form):
        return False
    # An offline system has as many requests as the system itself.
    return is_tuple_of(pending, policy[0]) and fits_request_tuple(base, pending)


def check_position(base, policy, position):
    """Raise InvalidPosition if the value is not a position of the policy."""
    if not fits_position(base, policy, position):
        raise InvalidPosition("not a position of the policy")
