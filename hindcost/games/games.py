"""Game positions and moves."""

from hindcost.errors import InvalidPosition
from hindcost.helpers import check_integer_from, explore, is_tuple_of
from hindcost.policies.policies import MAX_LOOKAHEAD, tuples_of_length
from hindcost.systems.offline import offline_for
from hindcost.systems.systems import check_request, check_system, fits_request_tuple, fits_state
from hindcost.work.forms import advance_form, fits_form
from hindcost.work.functions import begin_work

MAX_GAME = 300


def game_positions(system, *, offline=None, lookahead=0):
    """Return the reachable game positions, ascending."""
    base = checked_game(system, offline, lookahead)
    return tuple(sorted(game_of(system, base, lookahead).positions))


def is_game_position(system, value, *, offline=None, lookahead=0):
    """Return whether the value is a game position."""
    base = checked_game(system, offline, lookahead)
    return fits_game_position(system, base, lookahead, value)


def game_moves(system, position, request, *, offline=None, lookahead=0):
    """Return a triple (next position, cost, increase) for each move that is possible when the request arrives."""
    base = checked_game(system, offline, lookahead)
    if not fits_game_position(system, base, lookahead, position):
        raise InvalidPosition("not a game position")
    check_request(system, request)
    return tuple(moves_from(system, base, position, request))


def checked_game(system, offline, lookahead):
    """Return the offline system, or raise the error for the first of the values that is not as it must be."""
    check_system(system)
    base = offline_for(system, offline)
    check_integer_from(lookahead, 0, MAX_LOOKAHEAD)
    return base


def fits_game_position(system, base, lookahead, value):
    """Return whether the value is a game position for the offline system and the look-ahead."""
    if not is_tuple_of(value, 3):
        return False
    state, form, pending = value
    if not fits_state(system, state) or not fits_form(base, form):
        return False
    return is_tuple_of(pending, lookahead) and fits_request_tuple(system, pending)


def first_game_positions(system, base, lookahead):
    """Return the list of the first game positions, ascending."""
    form = begin_work(base)
    return [(system[2], form, pending) for pending in tuples_of_length(len(system[1]), lookahead)]


def moves_from(system, base, position, request):
    """Return the list of moves, ascending by the chosen states."""
    switching, requests, _ = system
    state, form, pending = position
    window = pending + (request,)
    costs = requests[window[0]]
    following, increase = advance_form(base, form, window[0])
    return [
        ((target, following, window[1:]), switching[state][target] + costs[target], increase)
        for target in range(len(costs)) if costs[target] is not None
    ]


def all_moves(system, base, position):
    """Return the list of all moves at the position, each with its request at the end."""
    return [
        move + (request,) for request in range(len(system[1])) for move in moves_from(system, base, position, request)
    ]


def moves_with(row, request):
    """Return the list of the moves of the row that answer the request, without it."""
    return [(target, cost, increase) for target, cost, increase, answered in row if answered == request]


class Game:
    """All reachable game positions, in the order of a breadth-first search, which begins with the first ones.

    `rows` has a row for each position, with a list of moves for each request. A move is a triple of the number of the
    next position, the cost and the increase. `numbers` has the number of each position.
    """

    def __init__(self, system, base, lookahead, start_count, positions, rows):
        self.system = system
        self.base = base
        self.lookahead = lookahead
        self.start_count = start_count
        self.positions = positions
        self.numbers = {position: number for number, position in enumerate(positions)}
        self.rows = rows


def game_of(system, base, lookahead):
    """Return the game of all reachable game positions; raise TooLarge if there are more than the limit."""
    starts = first_game_positions(system, base, lookahead)
    positions, edges = explore(starts, lambda position: all_moves(system, base, position), MAX_GAME)
    requests = list(range(len(system[1])))
    rows = [[moves_with(row, request) for request in requests] for row in edges]
    return Game(system, base, lookahead, len(starts), positions, rows)
