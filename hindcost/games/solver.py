"""The value of a game, with a best policy and an adversary table."""

from hindcost.games.answers import (
    paths_of_plans, policy_of_replies, ratio_of_paths, ratio_of_replies, table_of_paths
)
from hindcost.games.duels import best_replies, settle
from hindcost.games.games import checked_game, game_of
from hindcost.ratios.fractions import INFINITE, make_fraction
from hindcost.ratios.positions import graph_of_positions, track_of_positions
from hindcost.tracks.loops import greatest_quotient
from hindcost.work.functions import begin_work


def value_of(system, *, offline=None, lookahead=0):
    """Return the smallest ratio of all policies."""
    base = checked_game(system, offline, lookahead)
    return solve(game_of(system, base, lookahead))[0]


def solve_game(system, *, offline=None, lookahead=0):
    """Return the value, a best policy with its potential or None, and an adversary table or None."""
    base = checked_game(system, offline, lookahead)
    game = game_of(system, base, lookahead)
    ratio, replies, forced = solve(game)
    best = None if replies is None else best_policy(game, replies)
    table = None if forced is None else table_of_paths(game, forced[0], forced[1])
    return ratio, best, table


def best_policy(game, replies):
    """Return the policy of the replies, and a potential for its ratio."""
    policy = policy_of_replies(game, replies)
    graph = graph_of_positions(track_of_positions(game.system, game.base, policy, begin_work(game.base)))
    return policy, graph.ascending(greatest_quotient(graph.rows)[1])


def solve(game):
    """Return the value, the replies of a best policy or None, and the plans and paths of an adversary or None."""
    low = (0, 1)
    high = INFINITE
    replies = None
    forced = None
    # Both ends are quotients of loops, of which there are finitely many; so they meet when the gap is small enough.
    while low != high:
        ratio = middle(low, high)
        worths, plans = settle(game.rows, ratio)
        lost = [number for number in range(game.start_count) if worths[number] is None]
        if lost:
            paths = paths_of_plans(game, plans, lost[0])
            low = ratio_of_paths(paths)
            forced = plans, paths
        else:
            replies = best_replies(game.rows, ratio, worths)
            high = ratio_of_replies(game, replies)
    return high, replies, forced


def middle(low, high):
    """Return the fraction in the middle of the two ratios, or infinity if the greater one is infinite."""
    if high == INFINITE:
        return INFINITE
    return make_fraction(low[0] * high[1] + high[0] * low[1], 2 * low[1] * high[1])
