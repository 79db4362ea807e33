"""Tracks, and the graph of the places that they reach."""

from hindcost.helpers import explore, search_ways, way_to
from hindcost.policies.policies import tuples_of_length


class Track:
    """Requests that arrive one by one, with the sums of two amounts: a cost, and a gain that it is compared with.

    A place is a triple (one, other, pending): what is known of the two sides that are compared, and the requests
    that are known but not yet served. The function `serve` takes one, other and a window, and returns the next one,
    the next other, and the cost and the gain of serving the first request of the window. `sides` is the pair of one and
    other before all requests.
    """

    def __init__(self, system, lookahead, sides, serve):
        self.system = system
        self.lookahead = lookahead
        self.sides = sides
        self.serve = serve

    def place_before(self, pending):
        """Return the place in which these requests are known and none is served."""
        one, other = self.sides
        return one, other, pending

    def starts(self):
        """Return the list of the first places, ascending."""
        return [self.place_before(pending) for pending in tuples_of_length(len(self.system[1]), self.lookahead)]

    def arrive_at(self, place, request):
        """Return the next place, the cost and the gain of the arrival."""
        one, other, pending = place
        window = pending + (request,)
        next_one, next_other, cost, gain = self.serve(one, other, window)
        return (next_one, next_other, window[1:]), cost, gain

    def walk(self, place, arrivals):
        """Return the place after the arrivals, and the sums of their costs and gains."""
        costs = 0
        gains = 0
        for request in arrivals:
            place, cost, gain = self.arrive_at(place, request)
            costs += cost
            gains += gain
        return place, costs, gains

    def finish_at(self, place):
        """Return the sums of the costs and gains of serving the pending requests as the last ones."""
        one, other, pending = place
        costs = 0
        gains = 0
        for at in range(len(pending)):
            one, other, cost, gain = self.serve(one, other, pending[at:])
            costs += cost
            gains += gain
        return costs, gains

    def place_after(self, requests):
        """Return the place after the requests, at least as many as the look-ahead."""
        return self.walk(self.place_before(requests[:self.lookahead]), requests[self.lookahead:])[0]

    def totals(self, requests):
        """Return the sums of the costs and gains of all of the requests, however few."""
        start = self.place_before(requests[:self.lookahead])
        place, costs, gains = self.walk(start, requests[self.lookahead:])
        last_costs, last_gains = self.finish_at(place)
        return costs + last_costs, gains + last_gains


class Graph:
    """All places that a track reaches, in the order of a breadth-first search, which begins with the first places.

    `rows` has a row for each place, with one triple for each request: the number of the next place, the cost and the
    gain. `order` has the numbers of the places in the ascending order of the places.
    """

    def __init__(self, track, start_count, places, rows):
        numbers = {place: number for number, place in enumerate(places)}
        self.track = track
        self.start_count = start_count
        self.places = places
        self.rows = rows
        self.order = [numbers[place] for place in sorted(places)]

    def ascending(self, amounts):
        """Return the amounts, one for each number of a place, as a tuple in the ascending order of the places."""
        return tuple([amounts[number] for number in self.order])

    def by_number(self, amounts):
        """Return the list of the amounts by the numbers of the places, given in the ascending order of the places."""
        found = {number: amount for number, amount in zip(self.order, amounts)}
        return [found[number] for number in range(len(self.order))]

    def finishes(self):
        """Return the list of the sums of finishing at each place."""
        return [self.track.finish_at(place) for place in self.places]

    def requests_to(self, number):
        """Return requests after which the track is at the place with this number."""
        rows = self.rows
        starts = list(range(self.start_count))
        ways = search_ways(starts, len(rows[0]), lambda place, request: rows[place][request][0], len(rows))
        start, arrivals = way_to(ways, number)
        return self.places[start][2] + arrivals


def graph_of_track(track, limit):
    """Return the graph of all places that the track reaches; raise TooLarge if there are more than the limit."""
    starts = track.starts()
    requests = list(range(len(track.system[1])))
    places, rows = explore(
        starts, lambda place: [track.arrive_at(place, request) for request in requests], limit
    )
    return Graph(track, len(starts), places, rows)
