"""The excess and the factor of one policy over another one, with certificates."""

from hindcost.helpers import is_integer, is_tuple_of
from hindcost.policies.policies import check_two_policies
from hindcost.ratios.positions import move_and_cost
from hindcost.systems.systems import check_system
from hindcost.tracks.bounds import greatest_at_start, least_bounds, requests_with_greatest, weight_of_requests
from hindcost.tracks.certificates import quotient_certificate, way_with_loop
from hindcost.tracks.checks import fits_bounds, fits_quotient_certificate, fits_witness, loop_sums
from hindcost.tracks.loops import greatest_quotient
from hindcost.tracks.tracks import Track, graph_of_track

MAX_PAIRS = 1000

# The weight for this fraction is the plain difference of the two costs.
DIFFERENCE = (1, 1)


def reachable_pairs(system, first, second):
    """Return the reachable pairs, ascending."""
    graph = checked_pairs(system, first, second)
    return graph.ascending(graph.places)


def excess_of(system, first, second):
    """Return the greatest difference of the costs, or None if the differences have no bound."""
    graph = checked_pairs(system, first, second)
    bounds, _, loops = least_bounds(graph, DIFFERENCE)
    return None if loops else greatest_at_start(graph, DIFFERENCE, bounds)


def excess_certificate(system, first, second):
    """Return the excess, a witness for it, and bounds, or None for the excess None."""
    graph = checked_pairs(system, first, second)
    bounds, choices, loops = least_bounds(graph, DIFFERENCE)
    if loops:
        return None, way_with_loop(graph, loops[0]), None
    witness = requests_with_greatest(graph, DIFFERENCE, bounds, choices)
    return greatest_at_start(graph, DIFFERENCE, bounds), witness, graph.ascending(bounds)


def factor_of(system, first, second):
    """Return the smallest ratio of the costs of the first policy to those of the second one, up to a constant."""
    return greatest_quotient(checked_pairs(system, first, second).rows)[0]


def factor_certificate(system, first, second):
    """Return the factor, a potential for it or None, and a trap for it or None."""
    return quotient_certificate(checked_pairs(system, first, second))


def is_excess_certificate(system, first, second, value):
    """Return whether the value is an excess certificate."""
    graph = checked_pairs(system, first, second)
    if not is_tuple_of(value, 3):
        return False
    excess, witness, bounds = value
    if excess is None:
        return bounds is None and fits_rising_loop(graph.track, witness)
    return is_integer(excess) and fits_excess(graph, excess, witness, bounds)


def is_factor_certificate(system, first, second, value):
    """Return whether the value is a factor certificate."""
    return fits_quotient_certificate(checked_pairs(system, first, second), value)


def checked_pairs(system, first, second):
    """Return the graph of pairs, or raise the error for the first of the values that is not as it must be."""
    check_system(system)
    check_two_policies(system, first, second)
    return graph_of_track(track_of_pairs(system, first, second), MAX_PAIRS)


def track_of_pairs(system, first, second):
    """Return the track of both policies; its gains are the costs of the second one."""
    return Track(
        system, first[0], (first[3], second[3]),
        lambda one, other, window: serve_both(system, first, second, one, other, window)
    )


def serve_both(system, first, second, one, other, window):
    """Return the next memories of both policies, and the cost of serving the window's first request for each."""
    next_one, cost = move_and_cost(system, first, one, window)
    next_other, other_cost = move_and_cost(system, second, other, window)
    return next_one, next_other, cost, other_cost


def fits_rising_loop(track, value):
    """Return whether the value is a prefix and a loop along which the first policy costs more."""
    sums = loop_sums(track, value)
    return sums is not None and sums[0] > sums[1]


def fits_excess(graph, excess, witness, bounds):
    """Return whether the witness attains the excess, and the bounds show that nothing exceeds it."""
    if not fits_witness(graph.track, witness) or not fits_bounds(graph, DIFFERENCE, bounds):
        return False
    if weight_of_requests(graph.track, DIFFERENCE, witness) != excess:
        return False
    return greatest_at_start(graph, DIFFERENCE, graph.by_number(bounds)) == excess
