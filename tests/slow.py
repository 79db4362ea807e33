"""Slow ways to positions, loops and games, written from the words of the document."""

import functools
import itertools
import math
import random

from tests.helpers import all_windows, product_of, random_policy, random_system


def first_form(base):
    switching, _, start = base
    return switching[start]


def form_step(base, form, request):
    """The next form and the increase, by [3.2] and [3.3]."""
    switching, table, _ = base
    states = range(len(switching))
    work = [
        min(form[t] + table[request][t] + switching[t][s] for t in states if table[request][t] is not None)
        for s in states
    ]
    return tuple(entry - min(work) for entry in work), min(work)


def all_forms(base, greatest):
    """All forms of the system whose entries are at most this great."""
    switching = base[0]
    states = range(len(switching))
    for form in product_of(greatest + 1, len(states)):
        if min(form) == 0 and all(form[t] <= form[s] + switching[s][t] for s in states for t in states):
            yield form


@functools.lru_cache(maxsize=None)
def place_of_window(requests, lookahead, window):
    return all_windows(requests, lookahead).index(window)


def serve(system, policy, memory, window):
    """The next memory and the cost, by [5.3]."""
    lookahead, states, moves, _ = policy
    switching, table, _ = system
    target = moves[memory][place_of_window(len(table), lookahead, window)]
    return target, switching[states[memory]][states[target]] + table[window[0]][states[target]]


def arrival(system, base, policy, position, request):
    memory, form, pending = position
    window = pending + (request,)
    target, cost = serve(system, policy, memory, window)
    following, increase = form_step(base, form, window[0])
    return (target, following, window[1:]), cost, increase


def finishing(system, base, policy, position):
    memory, form, pending = position
    costs = increases = 0
    while pending:
        memory, cost = serve(system, policy, memory, pending)
        form, increase = form_step(base, form, pending[0])
        costs, increases, pending = costs + cost, increases + increase, pending[1:]
    return costs, increases


def starts(system, base, policy, form=None):
    begin = first_form(base) if form is None else form
    return [(policy[3], begin, pending) for pending in product_of(len(system[1]), policy[0])]


def closure(first, follow):
    """All nodes that the steps lead to, ascending; `follow` gives the next nodes of a node."""
    found = set(first)
    left = list(found)
    while left:
        for node in follow(left.pop()):
            if node not in found:
                found.add(node)
                left.append(node)
    return tuple(sorted(found))


def positions_by_hand(system, base, policy, form=None):
    requests = range(len(system[1]))
    return closure(
        starts(system, base, policy, form),
        lambda position: [arrival(system, base, policy, position, request)[0] for request in requests],
    )


def edges_by_hand(system, base, policy, form=None):
    """For each reachable position the list of its arrivals: (next position, cost, increase)."""
    requests = range(len(system[1]))
    found = positions_by_hand(system, base, policy, form)
    return {place: [arrival(system, base, policy, place, request) for request in requests] for place in found}


def pair_arrival(system, first, second, pair, request):
    one, other, pending = pair
    window = pending + (request,)
    next_one, cost = serve(system, first, one, window)
    next_other, other_cost = serve(system, second, other, window)
    return (next_one, next_other, window[1:]), cost, other_cost


def pair_finishing(system, first, second, pair):
    one, other, pending = pair
    costs = others = 0
    while pending:
        one, cost = serve(system, first, one, pending)
        other, other_cost = serve(system, second, other, pending)
        costs, others, pending = costs + cost, others + other_cost, pending[1:]
    return costs, others


def pair_edges_by_hand(system, first, second):
    requests = range(len(system[1]))
    begin = [(first[3], second[3], pending) for pending in product_of(len(system[1]), first[0])]
    found = closure(
        begin, lambda pair: [pair_arrival(system, first, second, pair, request)[0] for request in requests]
    )
    return {pair: [pair_arrival(system, first, second, pair, request) for request in requests] for pair in found}


def loops_by_hand(edges):
    """The pairs of sums of all loops that pass no place twice; all other loops consist of these."""
    order = {place: at for at, place in enumerate(edges)}
    sums = set()

    def extend(first, place, passed, cost, gain):
        for target, more_cost, more_gain in edges[place]:
            if target == first:
                sums.add((cost + more_cost, gain + more_gain))
            elif order[target] > order[first] and target not in passed:
                extend(first, target, passed | {target}, cost + more_cost, gain + more_gain)

    for place in edges:
        extend(place, place, {place}, 0, 0)
    return sums


def quotient(cost, gain):
    if gain == 0:
        return (1, 0)
    common = math.gcd(cost, gain)
    return (cost // common, gain // common)


def is_less(first, second):
    return first[0] * second[1] < second[0] * first[1]


def greatest(ratios):
    best = (0, 1)
    for ratio in ratios:
        if is_less(best, ratio):
            best = ratio
    return best


def ratio_by_hand(edges):
    return greatest(quotient(cost, gain) for cost, gain in loops_by_hand(edges) if cost > 0 or gain > 0)


def optimum_by_hand(base, sequence, form=None):
    """The sum of the increases."""
    form = first_form(base) if form is None else form
    total = 0
    for request in sequence:
        form, increase = form_step(base, form, request)
        total += increase
    return total


def cost_of_run(system, policy, sequence):
    """The cost of the policy's schedule, by [4.3]."""
    memory = policy[3]
    total = 0
    for at in range(len(sequence)):
        memory, cost = serve(system, policy, memory, sequence[at:at + policy[0] + 1])
        total += cost
    return total


def sequences_up_to(requests, longest):
    for length in range(longest + 1):
        yield from product_of(requests, length)


def game_starts(system, base, lookahead):
    return [(system[2], first_form(base), pending) for pending in product_of(len(system[1]), lookahead)]


def moves_by_hand(system, base, position, request):
    """The moves by [9.2]."""
    state, form, pending = position
    window = pending + (request,)
    following, increase = form_step(base, form, window[0])
    moves = []
    for target, cost in enumerate(system[1][window[0]]):
        if cost is not None:
            moves.append(((target, following, window[1:]), system[0][state][target] + cost, increase))
    return tuple(moves)


def game_by_hand(system, base, lookahead):
    """For each reachable game position the list of its moves for each request."""
    requests = range(len(system[1]))
    found = closure(
        game_starts(system, base, lookahead),
        lambda place: [move[0] for request in requests for move in moves_by_hand(system, base, place, request)],
    )
    return {place: [moves_by_hand(system, base, place, request) for request in requests] for place in found}


def value_by_hand(system, base, lookahead):
    """The least ratio of all ways to choose a move for each game position and request."""
    game = game_by_hand(system, base, lookahead)
    places = [(place, request) for place in game for request in range(len(system[1]))]
    best = (1, 0)
    for chosen in itertools.product(*(game[place][request] for place, request in places)):
        choice = dict(zip(places, chosen))
        follow = {place: [choice[place, request] for request in range(len(system[1]))] for place in game}
        reached = closure(game_starts(system, base, lookahead), lambda place: [move[0] for move in follow[place]])
        ratio = ratio_by_hand({place: follow[place] for place in reached})
        if is_less(ratio, best):
            best = ratio
    return best


def count_of_choices(system, base, lookahead):
    return math.prod(len(moves) for rows in game_by_hand(system, base, lookahead).values() for moves in rows)


def potential_holds(edges, ratio, value):
    """[6.2], for a tuple with an integer for each place."""
    numbers = dict(zip(edges, value))
    p, q = ratio
    return all(
        q * cost + numbers[target] <= p * gain + numbers[place]
        for place, row in edges.items() for target, cost, gain in row
    )


def bounds_hold(edges, finishes, ratio, value):
    """[7.2], for a tuple with an integer for each place; `finishes` has the two sums of finishing for each place."""
    bounds = dict(zip(edges, value))
    p, q = ratio
    at_the_end = all(bounds[place] >= q * finishes[place][0] - p * finishes[place][1] for place in edges)
    return at_the_end and all(
        bounds[place] >= q * cost - p * gain + bounds[target]
        for place, row in edges.items() for target, cost, gain in row
    )


def follow(edges, place, arrivals):
    """The place after the arrivals, and the two sums."""
    costs = gains = 0
    for request in arrivals:
        place, cost, gain = edges[place][request]
        costs, gains = costs + cost, gains + gain
    return place, costs, gains


def trap_holds(edges, first, lookahead, ratio, value):
    """[6.3], for a pair of request tuples; `first` has the two parts of a first place besides the pending requests."""
    prefix, loop = value
    if ratio == (0, 1) or not lookahead <= len(prefix) <= 1000 + lookahead or not 1 <= len(loop) <= 1000:
        return False
    start = (*first, prefix[:lookahead])
    place, _, _ = follow(edges, start, prefix[lookahead:])
    last, costs, gains = follow(edges, place, loop)
    return last == place and ratio[1] * costs == ratio[0] * gains and (costs, gains) != (0, 0)


def random_cases(seed, count, lookaheads=(0, 1, 2), memories=(2, 3, 5)):
    """Systems with a policy, an offline system or None, and a form to begin with or None, of all combinations."""
    rng = random.Random(seed)
    for at in range(count):
        lookahead = lookaheads[at % len(lookaheads)]
        requests = rng.choice((1, 2)) if lookahead == 2 else rng.choice((1, 2, 3))
        system = random_system(rng, rng.choice((2, 3)), requests)
        offline = random_system(rng, rng.choice((2, 3)), requests) if at // 3 % 2 else None
        policy = random_policy(rng, system, lookahead, rng.choice(memories))
        base = system if offline is None else offline
        form = rng.choice(list(all_forms(base, 3))) if at // 6 % 2 else None
        yield system, policy, offline, form


def table_holds(game, first, ratio, value):
    """[9.5], for a tuple of at least one entry of a game position, a request and two integers."""
    if ratio == (0, 1):
        return False
    places = [entry[0] for entry in value]
    entries = {entry[0]: entry for entry in value}
    if any(one >= two for one, two in zip(places, places[1:])) or not set(places) <= set(game):
        return False
    if not set(places) & set(first):
        return False
    for place, request, number, level in value:
        for target, cost, increase in game[place][request]:
            if target not in entries:
                return False
            _, _, next_number, next_level = entries[target]
            if ratio == (1, 0):
                kept = next_level <= level
                if increase > 0:
                    kept = kept and next_level < level
                if increase == 0 and cost == 0 and next_level == level:
                    kept = kept and next_number < number
            else:
                p, q = ratio
                kept = q * cost + next_number >= p * increase + number
                if cost == 0 and increase == 0:
                    kept = kept and next_level < level
            if not kept:
                return False
    return True


def table_by_hand(game, ratio, plan):
    """An adversary table with these requests for a fraction, if they force it; `plan` is closed under all moves."""
    p, q = ratio
    numbers = dict.fromkeys(plan, 0)
    levels = dict.fromkeys(plan, 0)
    for _ in range(2 * len(plan) + 2):
        for place, request in plan.items():
            for target, cost, increase in game[place][request]:
                numbers[place] = min(numbers[place], q * cost - p * increase + numbers[target])
                if cost == 0 and increase == 0:
                    levels[place] = max(levels[place], levels[target] + 1)
    return tuple((place, plan[place], numbers[place], levels[place]) for place in sorted(plan))


def random_games(seed, count, lookaheads=(0, 1, 2), sizes=(2, 2, 3)):
    """Systems with an offline system or None and a look-ahead; those with too many game positions are left out."""
    rng = random.Random(seed)
    found = 0
    while found < count:
        lookahead = lookaheads[found % len(lookaheads)]
        requests = rng.choice((1, 2)) if lookahead == 2 else rng.choice((1, 2, 3))
        system = random_system(rng, rng.choice(sizes), requests)
        offline = random_system(rng, rng.choice(sizes), requests) if found // 3 % 2 else None
        if len(game_by_hand(system, system if offline is None else offline, lookahead)) <= 300:
            found += 1
            yield system, offline, lookahead
