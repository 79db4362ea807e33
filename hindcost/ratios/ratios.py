"""The ratio of a policy, with a certificate."""

from hindcost.ratios.positions import checked_track, graph_of_positions
from hindcost.tracks.certificates import quotient_certificate
from hindcost.tracks.loops import greatest_quotient


def ratio_of(system, policy, *, offline=None, form=None):
    """Return the ratio of the policy."""
    graph = graph_of_positions(checked_track(system, policy, offline, form))
    return greatest_quotient(graph.rows)[0]


def ratio_certificate(system, policy, *, offline=None, form=None):
    """Return the ratio of the policy, a potential for it or None, and a trap for it or None."""
    return quotient_certificate(graph_of_positions(checked_track(system, policy, offline, form)))
