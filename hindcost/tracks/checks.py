"""Whether values are potentials, bounds, traps or certificates of a track, whoever made them."""

from hindcost.helpers import is_integer, is_tuple_of
from hindcost.ratios.fractions import INFINITE, is_ratio
from hindcost.systems.systems import fits_request_tuple
from hindcost.tracks.bounds import weights_of_finishing
from hindcost.tracks.loops import weight_of

# A shortest way to one of at most 1000 places, and a loop that passes none of them twice, have no more requests.
MAX_WAY = 1000


def fits_requests(system, value, least, most):
    """Return whether the value is a tuple of least to most request numbers."""
    return fits_request_tuple(system, value) and least <= len(value) <= most


def fits_witness(track, value):
    """Return whether the value is a request tuple of at most the length of a way that is finished."""
    return fits_requests(track.system, value, 0, MAX_WAY + 2 * track.lookahead)


def fits_numbers(graph, value):
    """Return whether the value is a tuple with an integer for each place."""
    if not is_tuple_of(value, len(graph.places)):
        return False
    for number in value:
        if not is_integer(number):
            return False
    return True


def holds_along_steps(graph, ratio, heights):
    """Return whether each height is at least the weight of each step plus the height of the next place."""
    for height, row in zip(heights, graph.rows):
        for target, cost, gain in row:
            if height < weight_of(ratio, cost, gain) + heights[target]:
                return False
    return True


def fits_potential(graph, ratio, value):
    """Return whether the value is a potential for the ratio."""
    if ratio == INFINITE or not fits_numbers(graph, value):
        return False
    return holds_along_steps(graph, ratio, graph.by_number(value))


def fits_bounds(graph, ratio, value):
    """Return whether the value has a bound for each place of what can still come there, finishing included."""
    if not fits_numbers(graph, value):
        return False
    bounds = graph.by_number(value)
    for bound, floor in zip(bounds, weights_of_finishing(graph, ratio)):
        if bound < floor:
            return False
    return holds_along_steps(graph, ratio, bounds)


def loop_sums(track, value):
    """Return the sums of the costs and gains along the loop of a pair (prefix, loop).

    Return None if the value is not such a pair, within its lengths, whose loop leads back to where it begins.
    """
    least = track.lookahead
    if not is_tuple_of(value, 2) or not fits_requests(track.system, value[0], least, MAX_WAY + least):
        return None
    prefix, loop = value
    if not fits_requests(track.system, loop, 1, MAX_WAY):
        return None
    before = track.place_after(prefix)
    after, costs, gains = track.walk(before, loop)
    return (costs, gains) if after == before else None


def fits_trap(track, ratio, value):
    """Return whether the value is a trap for the ratio."""
    sums = loop_sums(track, value)
    if sums is None or ratio == (0, 1):
        return False
    costs, gains = sums
    return weight_of(ratio, costs, gains) == 0 and (costs > 0 or gains > 0)


def fits_quotient_certificate(graph, value):
    """Return whether the value is a triple of the greatest quotient of loops, a potential and a trap for it."""
    if not is_tuple_of(value, 3) or not is_ratio(value[0]):
        return False
    # A potential shows that no loop has a greater quotient than the ratio, a trap that some loop has this quotient.
    ratio, potential, trap = value
    fits_above = potential is None if ratio == INFINITE else fits_potential(graph, ratio, potential)
    fits_below = trap is None if ratio == (0, 1) else fits_trap(graph.track, ratio, trap)
    return fits_above and fits_below
