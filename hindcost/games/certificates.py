"""Checks of best policies, adversary tables and game solutions."""

from hindcost.errors import TooLarge
from hindcost.games.games import checked_game, fits_game_position, game_of
from hindcost.helpers import is_integer, is_tuple_of
from hindcost.policies.policies import fits_policy
from hindcost.ratios.fractions import INFINITE, check_ratio, is_ratio
from hindcost.ratios.positions import graph_of_positions, track_of_positions
from hindcost.systems.systems import fits_request
from hindcost.tracks.checks import fits_potential
from hindcost.work.functions import begin_work


def is_best_policy(system, ratio, value, *, offline=None, lookahead=0):
    """Return whether the value is a pair of a policy and a potential that shows that it has at most the ratio."""
    base = checked_game(system, offline, lookahead)
    check_ratio(ratio)
    return fits_best_policy(system, base, lookahead, ratio, value)


def is_adversary_table(system, ratio, value, *, offline=None, lookahead=0):
    """Return whether the value is a table by which an adversary forces at least the ratio."""
    base = checked_game(system, offline, lookahead)
    check_ratio(ratio)
    return fits_adversary_table(game_of(system, base, lookahead), ratio, value)


def is_game_solution(system, value, *, offline=None, lookahead=0):
    """Return whether the value is a triple of the value of the game, a best policy and an adversary table."""
    base = checked_game(system, offline, lookahead)
    game = game_of(system, base, lookahead)
    if not is_tuple_of(value, 3) or not is_ratio(value[0]):
        return False
    # The policy shows that the value is at most the ratio, the table that it is at least the ratio.
    ratio, best, table = value
    if ratio == INFINITE:
        return best is None and fits_adversary_table(game, ratio, table)
    if not fits_best_policy(system, base, lookahead, ratio, best):
        return False
    return table is None if ratio == (0, 1) else fits_adversary_table(game, ratio, table)


def fits_best_policy(system, base, lookahead, ratio, value):
    """Return whether the value is a best policy for the ratio; there is none for infinity, as there is no potential."""
    if not is_tuple_of(value, 2):
        return False
    policy, potential = value
    if not fits_policy(system, policy) or policy[0] != lookahead:
        return False
    try:
        graph = graph_of_positions(track_of_positions(system, base, policy, begin_work(base)))
    except TooLarge:
        return False
    return fits_potential(graph, ratio, potential)


def fits_adversary_table(game, ratio, value):
    """Return whether the value is an adversary table for the ratio."""
    if ratio == (0, 1) or not fits_entries(game, value):
        return False
    marks = {game.numbers[position]: (number, level) for position, _, number, level in value}
    for position, request, number, level in value:
        for target, cost, increase in game.rows[game.numbers[position]][request]:
            if target not in marks or not holds_at_move(ratio, (number, level), marks[target], cost, increase):
                return False
    return min(marks) < game.start_count


def fits_entries(game, value):
    """Return whether the value is a tuple of at least one entry, ascending by reachable game positions."""
    if not isinstance(value, tuple) or len(value) == 0:
        return False
    for entry in value:
        if not fits_entry(game, entry):
            return False
    for at in range(1, len(value)):
        if value[at - 1][0] >= value[at][0]:
            return False
    return True


def fits_entry(game, value):
    """Return whether the value is an entry of a table for a reachable game position."""
    if not is_tuple_of(value, 4):
        return False
    position, request, number, level = value
    if not fits_game_position(game.system, game.base, game.lookahead, position) or position not in game.numbers:
        return False
    return fits_request(game.system, request) and is_integer(number) and is_integer(level)


def holds_at_move(ratio, before, after, cost, increase):
    """Return whether the move keeps the rules of a table, with the pairs (number, level) before and after it."""
    if ratio == INFINITE:
        return holds_for_infinity(before, after, cost, increase)
    p, q = ratio
    if q * cost + after[0] < p * increase + before[0]:
        return False
    return cost > 0 or increase > 0 or after[1] < before[1]


def holds_for_infinity(before, after, cost, increase):
    """Return whether the move keeps the rules of a table for the infinite ratio."""
    if after[1] != before[1]:
        return after[1] < before[1]
    return increase == 0 and (cost > 0 or after[0] < before[0])
