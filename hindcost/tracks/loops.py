"""Loops of a graph of places: whether the weighted sums rise for ever, and the greatest quotient of two sums."""

from hindcost.ratios.fractions import INFINITE, compare_ratios, make_fraction


def weight_of(ratio, cost, gain):
    """Return q * cost - p * gain for the ratio (p, q)."""
    p, q = ratio
    return q * cost - p * gain


def weighted(rows, ratio):
    """Return a row for each place, with one pair for each request: the next place and the weight."""
    return [[(target, weight_of(ratio, cost, gain)) for target, cost, gain in row] for row in rows]


def rise(rows, ratio, floors):
    """Return the least heights, the choices that give them, and no loops; or some heights, choices, and rising loops.

    A height is at least the floor of its place, and for each request at least the weight for the ratio plus the
    height of the next place. A choice is a request, or None where the height is the floor. A loop rises if its
    weights have a sum above 0; then there are no such heights.
    """
    steps = weighted(rows, ratio)
    heights = list(floors)
    choices = [None for _ in rows]
    loops = []
    while not loops and raise_heights(steps, heights, choices):
        # A height that is no longer the floor was reached by its choice from below, so loops of choices rise. If
        # there is a rising loop, the choices cannot go without a loop for ever, since paths without one are few.
        loops = loops_of_choices(steps, choices)
    return heights, choices, loops


def raise_heights(steps, heights, choices):
    """Raise the heights in the lists, place by place, and return whether any was raised."""
    raised = False
    # Most steps lead to places that were found later, so going backwards takes fewer rounds.
    for place in range(len(steps) - 1, -1, -1):
        height = heights[place]
        for request, (target, weight) in enumerate(steps[place]):
            if heights[target] + weight > height:
                height = heights[target] + weight
                choices[place] = request
        if height > heights[place]:
            heights[place] = height
            raised = True
    return raised


def loops_of_choices(steps, choices):
    """Return the loops that the choices lead to, each as a pair of a place on it and the tuple of its requests."""
    loops = []
    marks = {}
    for start in range(len(steps)):
        place = start
        while place not in marks and choices[place] is not None:
            marks[place] = start
            place = steps[place][choices[place]][0]
        if choices[place] is not None and marks[place] == start:
            loops.append((place, choices_around(steps, choices, place)))
    return loops


def choices_around(steps, choices, start):
    """Return the requests that the choices make from a place back to it."""
    requests = [choices[start]]
    place = steps[start][choices[start]][0]
    while place != start:
        requests.append(choices[place])
        place = steps[place][choices[place]][0]
    return tuple(requests)


def choices_from(rows, choices, place):
    """Return the requests that the choices make from the place until there is no choice."""
    requests = []
    while choices[place] is not None:
        requests.append(choices[place])
        place = rows[place][choices[place]][0]
    return tuple(requests)


def quotient_of_loop(rows, loop):
    """Return the quotient of the sums of a loop, of which at least one is above 0."""
    place, requests = loop
    costs = 0
    gains = 0
    for request in requests:
        place, cost, gain = rows[place][request]
        costs += cost
        gains += gain
    return make_fraction(costs, gains) if gains > 0 else INFINITE


def greatest_quotient(rows):
    """Return the greatest quotient of all loops as a ratio, the least heights for it, and a loop that has it.

    The heights are None for an infinite ratio, and the loop is None for the ratio (0, 1).
    """
    ratio = (0, 1)
    found = None
    floors = [0 for _ in rows]
    while True:
        heights, _, loops = rise(rows, ratio, floors)
        if not loops:
            return ratio, heights, found
        # A loop rises exactly if its quotient is greater, so the ratio grows with each round.
        for loop in loops:
            quotient = quotient_of_loop(rows, loop)
            if compare_ratios(quotient, ratio) > 0:
                ratio = quotient
                found = loop
        if ratio == INFINITE:
            return ratio, None, found
