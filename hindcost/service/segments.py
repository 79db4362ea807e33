"""Phases of a service, and their segments, in which one policy runs and something is guaranteed for it."""

from hindcost.ratios.fractions import INFINITE, make_fraction
from hindcost.ratios.positions import graph_of_positions, track_of_positions
from hindcost.ratios.surcharges import surcharge_at
from hindcost.tracks.loops import greatest_quotient


class Phase:
    """A system with its offline system, and how many requests had arrived and were served before the phase."""

    def __init__(self, system, base, arrived_before, served_before):
        self.system = system
        self.base = base
        self.arrived_before = arrived_before
        self.served_before = served_before


class Segment:
    """A policy with its ratio and surcharge, and the sums of costs and of increases before the segment.

    The surcharge is None if the ratio is infinite.
    """

    def __init__(self, policy, ratio, surcharge, paid_before, least_before):
        self.policy = policy
        self.ratio = ratio
        self.surcharge = surcharge
        self.paid_before = paid_before
        self.least_before = least_before

    def most(self, least):
        """Return the guarantee for this optimum as a fraction, or None if there is none."""
        if self.surcharge is None:
            return None
        p, q = self.ratio
        more, parts = self.surcharge
        whole = self.paid_before * q + p * (least - self.least_before)
        return make_fraction(whole * parts + more * q, q * parts)


def segment_of(phase, policy, form, paid, least):
    """Return the segment that begins with this form; raise TooLarge if the policy reaches too many positions."""
    graph = graph_of_positions(track_of_positions(phase.system, phase.base, policy, form))
    ratio, _, _ = greatest_quotient(graph.rows)
    surcharge = None if ratio == INFINITE else surcharge_at(graph, ratio)
    return Segment(policy, ratio, surcharge, paid, least)
