"""Bounds of what can still come at each place of a graph, finishing included, and the requests that attain them."""

from hindcost.policies.policies import windows_up_to
from hindcost.tracks.loops import choices_from, rise, weight_of


def least_bounds(graph, ratio):
    """Return the least bounds, the choices that give them, and no loops; or the loops that rise for ever."""
    return rise(graph.rows, ratio, weights_of_finishing(graph, ratio))


def weights_of_finishing(graph, ratio):
    """Return the list of the weights of finishing at each place."""
    return [weight_of(ratio, cost, gain) for cost, gain in graph.finishes()]


def weight_of_requests(track, ratio, requests):
    """Return the weight of all of the requests, finishing included."""
    cost, gain = track.totals(requests)
    return weight_of(ratio, cost, gain)


def short_tuples(track):
    """Return all request tuples with fewer requests than the look-ahead."""
    if track.lookahead == 0:
        return ()
    return ((),) + windows_up_to(len(track.system[1]), track.lookahead - 1)


def greatest_at_start(graph, ratio, bounds):
    """Return the greatest of the bounds of the first places and of the weights of all short request tuples."""
    shorts = [weight_of_requests(graph.track, ratio, requests) for requests in short_tuples(graph.track)]
    return max([bounds[number] for number in range(graph.start_count)] + shorts)


def requests_with_greatest(graph, ratio, bounds, choices):
    """Return requests whose weight is the greatest of all, which the bounds and choices give."""
    start = max(list(range(graph.start_count)), key=lambda number: bounds[number])
    longest = graph.places[start][2] + choices_from(graph.rows, choices, start)
    # The longer requests stand last: they are taken only if they weigh more.
    return max(short_tuples(graph.track) + (longest,), key=lambda row: weight_of_requests(graph.track, ratio, row))
