"""What the tests share: the values of the document, odd values, small random systems, and slow ways to the results."""

import copy
import itertools
import random

A = (((0, 1), (1, 0)), ((0, 2), (2, 0)), 0)
MOVE = (0, (0, 1), ((0, 1), (0, 1)), 0)
STAY = (0, (0,), ((0, 0),), 0)
T = (((0, 2), (2, 0)), ((0, 1), (1, 0)), 0)

# Two states with costs that differ by direction, a state that is not allowed, and a start that is not 0.
UNEVEN = (((0, 3, 5), (1, 0, 2), (4, 6, 0)), ((None, 4, 0), (1, None, None), (2, 0, 7)), 1)


def nested(depth):
    """A tuple in a list in a tuple and so on."""
    value = ()
    for level in range(depth - 1):
        value = [value] if level % 2 else (value,)
    return value


# One request in two states, where all that a policy does is free, and two requests, and eight.
ONE = (((0, 1), (1, 0)), ((0, 0),), 0)
TWO = (((0, 1), (1, 0)), ((0, 0), (0, 0)), 0)
EIGHT = (((0, 1), (1, 0)), ((0, 0),) * 8, 0)


def slides(up, down, requests):
    """A system whose requests all lead from (0, up) step by step to (down, 0): up + down + 1 forms."""
    return (((0, up), (down, 0)), ((1, 0),) * requests, 0)


def slide(up, down):
    return slides(up, down, 1)


def only_one(requests):
    """A system in which all requests are allowed in state 1 alone, so there is one move at each game position."""
    return (ONE[0], ((None, 0),) * requests, 0)


def turning(length, lookahead, requests):
    """A policy with a ring of memories that all have state 0: each window leads from one to the next."""
    row = window_count(requests, lookahead)
    return (lookahead, (0,) * length, tuple(((m + 1) % length,) * row for m in range(length)), 0)


# No value here is a small integer, so none is a state, a request, a memory, a look-ahead or a size.
ODD = (
    None, True, False, "", "0", "((0, 1), (1, 0))", (), [], {}, [0], {0: 1}, {"start": 0}, (True,), (None,), ("0",),
    ([0],), ((),), ((), (), ()), ((), (), (), ()), (None, None, None), (None, None, None, None), ({}, [], "", ()),
    -1, 10**49, -(10**49), 10**50 - 1, -(10**50 - 1), (10**50 - 1,), (-1,), nested(9), nested(10),
)


def assert_error(case, error, kept, function, *arguments, **keywords):
    """Assert that the call raises exactly this error, with `kept` = (attribute, value), and changes no argument."""
    before = copy.deepcopy((arguments, keywords))
    with case.assertRaises(error) as caught:
        function(*arguments, **keywords)
    case.assertIs(type(caught.exception), error)
    if kept is not None:
        held = getattr(caught.exception, kept[0])
        case.assertEqual(held, kept[1])
        case.assertIs(type(held), type(kept[1]))
    case.assertEqual((arguments, keywords), before)


def replacements(value, odd=ODD):
    """All values that are like this tuple, but with one part, however deep, replaced by an odd value or a list."""
    for at, part in enumerate(value):
        changed = list(odd)
        if isinstance(part, tuple):
            changed += [list(part), *replacements(part, odd)]
        for new in changed:
            yield value[:at] + (new,) + value[at + 1:]


def product_of(count, length):
    return itertools.product(range(count), repeat=length)


def random_switching(rng, size, greatest):
    """A switching table: the least sums of random steps."""
    table = [[0 if s == t else rng.randint(1, greatest) for t in range(size)] for s in range(size)]
    for u, s, t in itertools.product(range(size), repeat=3):
        table[s][t] = min(table[s][t], table[s][u] + table[u][t])
    return tuple(tuple(row) for row in table)


def random_system(rng, size, requests, greatest=5):
    switching = random_switching(rng, size, greatest)
    table = []
    for _ in range(requests):
        row = [rng.choice([None, 0, 0, 1, 2, greatest]) for _ in range(size)]
        row[rng.randrange(size)] = rng.randint(0, greatest)
        table.append(tuple(row))
    return (switching, tuple(table), rng.randrange(size))


def random_systems(seed, count, sizes=(2, 3, 4), requests=(1, 2, 3)):
    rng = random.Random(seed)
    return [random_system(rng, rng.choice(sizes), rng.choice(requests)) for _ in range(count)]


def window_count(requests, lookahead):
    return sum(requests ** (length + 1) for length in range(lookahead + 1))


def all_windows(requests, lookahead):
    """The windows in their order, by the words of [4.1]."""
    found = [w for length in range(1, lookahead + 2) for w in product_of(requests, length)]
    return sorted(found, key=lambda window: (len(window), window))


def random_policy(rng, system, lookahead, memories):
    """A policy with about this many memories: at least one for each request, in an allowed state, and one at start."""
    _, table, start = system
    states = [start]
    for row in table:
        states.append(rng.choice([s for s, cost in enumerate(row) if cost is not None]))
    while len(states) < memories:
        states.append(rng.randrange(len(system[0])))
    rng.shuffle(states)
    heads = [window[0] for window in all_windows(len(table), lookahead)]
    fitting = [[m for m, s in enumerate(states) if row[s] is not None] for row in table]
    moves = tuple(tuple(rng.choice(fitting[head]) for head in heads) for _ in states)
    return (lookahead, tuple(states), moves, states.index(start))


def split_policy(rng, policy):
    """The same policy with each memory twice: moves lead to either one, and the memories are mixed."""
    lookahead, states, moves, first = policy
    count = len(states)
    order = list(range(2 * count))
    rng.shuffle(order)
    place = {old: new for new, old in enumerate(order)}
    rows = [tuple(place[target + count * rng.randrange(2)] for target in moves[old % count]) for old in order]
    return (lookahead, tuple(states[old % count] for old in order), tuple(rows), place[first])


def renumbered(rng, policy):
    """The same policy with its memories in another order."""
    lookahead, states, moves, first = policy
    order = list(range(len(states)))
    rng.shuffle(order)
    place = {old: new for new, old in enumerate(order)}
    rows = tuple(tuple(place[target] for target in moves[old]) for old in order)
    return (lookahead, tuple(states[old] for old in order), rows, place[first])


def cost_by_hand(system, sequence, schedule):
    switching, table, state = system
    total = 0
    for request, target in zip(sequence, schedule):
        total = total + switching[state][target] + table[request][target]
        state = target
    return total


def all_schedules(system, sequence):
    """All schedules for the sequence, ascending."""
    choices = [[s for s, cost in enumerate(system[1][request]) if cost is not None] for request in sequence]
    return list(itertools.product(*choices))


def work_by_hand(system, sequence):
    """The least costs of serving the sequence and then switching to each state, over all schedules."""
    switching, _, start = system
    ends = [
        (cost_by_hand(system, sequence, schedule), (start,) + schedule) for schedule in all_schedules(system, sequence)
    ]
    return tuple(min(cost + switching[way[-1]][s] for cost, way in ends) for s in range(len(switching)))
