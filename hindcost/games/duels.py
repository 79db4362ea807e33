"""Duels: whether an adversary can force a ratio, or a policy can stay below it."""

from heapq import heappop, heappush

# In a duel each move has a score. The adversary wants the sum of the scores to rise for ever, the policy wants it to
# stay bounded, so a loop of moves is good for the one or for the other. The scores along a loop have a sum above 0
# exactly if q * cost - p * increase is above 0, or is 0 while some cost or increase of the loop is not.


def settle(rows, ratio):
    """Return two lists: for each position its worth, and the request by which the adversary gets it.

    The worth is the greatest sum of scores that the adversary can force if it may end the duel at any moment; it is
    None if there is no bound. The request is None where the adversary ends the duel at once.
    """
    steps = scored(rows, ratio)
    worths = [0 for _ in steps]
    plans = [None for _ in steps]
    # Better plans never lower a worth, so no plans recur; and all loops that they allow have sums above 0.
    while improve_plans(steps, worths, plans):
        worths = worths_of_plans(steps, worths, plans)
    return worths, plans


def best_replies(rows, ratio, worths):
    """Return for each position and request the index of the move that leaves the least worth."""
    return [[best_reply(worths, moves) for moves in row] for row in scored(rows, ratio)]


def scored(rows, ratio):
    """Return the rows with a pair (next position, score) in the place of each move."""
    p, q = ratio
    size = len(rows)
    # A loop has at most `size` moves. So in the small parts of its scores one move with a cost or an increase
    # outweighs all moves without, and the small parts decide only where the great parts have the sum 0.
    scale = size * size + 1
    return [[[
        (target, scale * (q * cost - p * increase) + (size if cost > 0 or increase > 0 else -1))
        for target, cost, increase in moves
    ] for moves in row] for row in rows]


def improve_plans(steps, worths, plans):
    """Change all plans for which a request is better by the present worths; return whether there was one."""
    improved = False
    for position, row in enumerate(steps):
        best = worths[position]
        for request, moves in enumerate(row):
            if best is not None:
                forced = least_worth(worths, moves)
                if forced is None or forced > best:
                    best = forced
                    plans[position] = request
                    improved = True
    return improved


def least_worth(worths, moves):
    """Return the least sum of a score and the worth after it, or None if there is none with a bound."""
    sums = [score + worths[target] for target, score in moves if worths[target] is not None]
    return min(sums) if sums else None


def worths_of_plans(steps, worths, plans):
    """Return the worths for these plans, which were chosen by the present worths."""
    # The policy takes the cheapest way to a position where the adversary ends the duel. Measured by the present
    # worths no move on a way is below 0, so that the ways are found from their ends, the cheapest ones first.
    before = moves_into(steps, worths, plans)
    found = [None for _ in steps]
    queue = [(0, position) for position in range(len(steps)) if plans[position] is None]
    while queue:
        rise, position = heappop(queue)
        if found[position] is None:
            found[position] = worths[position] + rise
            for source, more in before[position]:
                if found[source] is None:
                    heappush(queue, (rise + more, source))
    return found


def moves_into(steps, worths, plans):
    """Return for each position the list of moves to it that the plans allow, as pairs (position before, rise).

    The rise is how far the worth of the position before would be above the present one with this move.
    """
    before = [[] for _ in steps]
    for source, request in enumerate(plans):
        if request is not None:
            for target, score in steps[source][request]:
                # Where the worth has no bound already, it has none after each of these moves.
                if worths[target] is not None:
                    before[target].append((source, score + worths[target] - worths[source]))
    return before


def best_reply(worths, moves):
    """Return the index of the move with the least sum of its score and the worth after it, 0 if none has a bound."""
    bounded = [at for at in range(len(moves)) if worths[moves[at][0]] is not None]
    if not bounded:
        return 0
    return min(bounded, key=lambda at: moves[at][1] + worths[moves[at][0]])
