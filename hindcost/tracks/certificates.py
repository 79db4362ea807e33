"""Certificates that are built from the loops of a graph."""

from hindcost.tracks.loops import greatest_quotient


def way_with_loop(graph, loop):
    """Return requests that lead to the loop, and the requests of the loop."""
    place, requests = loop
    return graph.requests_to(place), requests


def quotient_certificate(graph):
    """Return the greatest quotient of loops, a potential for it or None, and a trap for it or None."""
    ratio, heights, loop = greatest_quotient(graph.rows)
    potential = None if heights is None else graph.ascending(heights)
    trap = None if loop is None else way_with_loop(graph, loop)
    return ratio, potential, trap
