"""The policy that follows given replies, and the adversary table that follows given plans."""

from hindcost.games.games import MAX_GAME
from hindcost.helpers import explore
from hindcost.policies.configurations import policy_of_configurations
from hindcost.schedules.schedules import best_states, costs_to_go
from hindcost.tracks.loops import greatest_quotient, rise
from hindcost.work.forms import advance_form
from hindcost.work.functions import begin_work


def ratio_of_replies(game, replies):
    """Return the greatest quotient of the loops that the replies allow."""
    starts = list(range(game.start_count))
    _, rows = explore(
        starts, lambda number: [moves[at] for moves, at in zip(game.rows[number], replies[number])], MAX_GAME
    )
    return greatest_quotient(rows)[0]


def policy_of_replies(game, replies):
    """Return the policy that moves by the replies; its memories are pairs of a state and a form."""
    # A pair that moves lead to occurs with all pending requests, so there are no more pairs than positions.
    return policy_of_configurations(
        game.lookahead, len(game.system[1]), (game.system[2], begin_work(game.base)),
        lambda pair, window: pair_after(game, replies, pair, window),
        lambda pair: pair[0]
    )


def pair_after(game, replies, pair, window):
    """Return the state and the form after the window's first request."""
    if len(window) <= game.lookahead:
        return last_pair(game, pair, window)
    request = window[-1]
    number = game.numbers[pair + (window[:-1],)]
    target, _, _ = game.rows[number][request][replies[number][request]]
    state, form, _ = game.positions[target]
    return state, form


def last_pair(game, pair, window):
    """Return the pair for a window that is not full, where the cheapest way to serve all that is left begins."""
    state, form = pair
    rests = costs_to_go(game.system, window)
    following, _ = advance_form(game.base, form, window[0])
    return best_states(game.system, state, window[0], rests[1])[0], following


def paths_of_plans(game, plans, start):
    """Return the list of the positions that the plans lead to from the start, and the rows of all moves there.

    In these rows the cost and the increase of each move have changed places.
    """
    return explore([start], lambda number: turned(game.rows[number][plans[number]]), MAX_GAME)


def turned(moves):
    """Return the moves with the increase before the cost."""
    return [(target, increase, cost) for target, cost, increase in moves]


def ratio_of_paths(paths):
    """Return the least quotient of the loops of the paths."""
    p, q = greatest_quotient(paths[1])[0]
    return q, p


def table_of_paths(game, plans, paths):
    """Return the adversary table of the plans for the least quotient of the loops of their paths."""
    reached, rows = paths
    quotient, heights, _ = greatest_quotient(rows)
    depths = depths_of_rest(rows)
    entries = []
    for number, height, depth in zip(reached, heights, depths):
        # With an infinite ratio the heights fall at each increase, otherwise they make up for costs and increases.
        marks = (depth, height) if quotient == (0, 1) else (-height, depth)
        entries.append((game.positions[number], plans[number]) + marks)
    return tuple(sorted(entries))


def depths_of_rest(rows):
    """Return for each place the greatest number of moves without cost and increase that can follow one another."""
    resting = [[(target, 1, 0) for target, cost, increase in row if cost == 0 and increase == 0] for row in rows]
    depths, _, _ = rise(resting, (0, 1), [0 for _ in rows])
    return depths
