"""The surcharge of a policy for a fraction, with a certificate."""

from hindcost.errors import BelowRatio
from hindcost.helpers import is_tuple_of
from hindcost.ratios.fractions import check_fraction, fits_fraction, make_fraction
from hindcost.ratios.positions import checked_track, graph_of_positions
from hindcost.systems.systems import check_sequence
from hindcost.tracks.bounds import greatest_at_start, least_bounds, requests_with_greatest, weight_of_requests
from hindcost.tracks.checks import fits_bounds, fits_witness
from hindcost.tracks.loops import greatest_quotient


def surplus_of(system, policy, ratio, sequence, *, offline=None, form=None):
    """Return the surplus of the sequence for the fraction."""
    track = checked_track(system, policy, offline, form)
    check_fraction(ratio)
    check_sequence(system, sequence)
    return weight_of_requests(track, ratio, sequence)


def surcharge_of(system, policy, ratio, *, offline=None, form=None):
    """Return the surcharge for the fraction."""
    return surcharge_at(checked_graph(system, policy, ratio, offline, form), ratio)


def surcharge_certificate(system, policy, ratio, *, offline=None, form=None):
    """Return the surcharge for the fraction, requests that attain it, and allowances."""
    graph = checked_graph(system, policy, ratio, offline, form)
    bounds, choices = allowances_for(graph, ratio)
    surcharge = make_fraction(greatest_at_start(graph, ratio, bounds), ratio[1])
    return surcharge, requests_with_greatest(graph, ratio, bounds, choices), graph.ascending(bounds)


def is_surcharge_certificate(system, policy, ratio, value, *, offline=None, form=None):
    """Return whether the value is a surcharge certificate for the fraction."""
    graph = checked_graph(system, policy, ratio, offline, form)
    if not is_tuple_of(value, 3) or not fits_fraction(value[0]):
        return False
    (p, q), requests, allowances = value
    if not fits_witness(graph.track, requests) or not fits_bounds(graph, ratio, allowances):
        return False
    # Both sides of each equation are multiplied by the denominator of the surcharge.
    surplus = weight_of_requests(graph.track, ratio, requests)
    greatest = greatest_at_start(graph, ratio, graph.by_number(allowances))
    return surplus * q == p * ratio[1] and greatest * q == p * ratio[1]


def checked_graph(system, policy, ratio, offline, form):
    """Return the graph of positions, or raise the error for the first of the values that is not as it must be."""
    track = checked_track(system, policy, offline, form)
    check_fraction(ratio)
    return graph_of_positions(track)


def surcharge_at(graph, ratio):
    """Return the surcharge for the fraction as a fraction; raise BelowRatio if there is none."""
    bounds, _ = allowances_for(graph, ratio)
    return make_fraction(greatest_at_start(graph, ratio, bounds), ratio[1])


def allowances_for(graph, ratio):
    """Return the least allowances and the choices that give them; raise BelowRatio if there are none."""
    bounds, choices, loops = least_bounds(graph, ratio)
    if loops:
        raise BelowRatio(greatest_quotient(graph.rows)[0])
    return bounds, choices
