"""Checks of potentials, traps and certificates for the ratio of a policy."""

from hindcost.ratios.fractions import check_ratio
from hindcost.ratios.positions import checked_track, graph_of_positions
from hindcost.tracks.checks import fits_potential, fits_quotient_certificate, fits_trap


def is_potential(system, policy, ratio, value, *, offline=None, form=None):
    """Return whether the value is a potential for the ratio."""
    track = checked_track(system, policy, offline, form)
    check_ratio(ratio)
    return fits_potential(graph_of_positions(track), ratio, value)


def is_trap(system, policy, ratio, value, *, offline=None, form=None):
    """Return whether the value is a trap for the ratio."""
    track = checked_track(system, policy, offline, form)
    check_ratio(ratio)
    return fits_trap(track, ratio, value)


def is_ratio_certificate(system, policy, value, *, offline=None, form=None):
    """Return whether the value is a triple of the ratio of the policy, a potential and a trap."""
    return fits_quotient_certificate(graph_of_positions(checked_track(system, policy, offline, form)), value)
