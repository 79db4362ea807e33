"""Reduced policies, and request tuples on which two policies differ."""

from hindcost.helpers import search_ways, way_to
from hindcost.policies.policies import (
    check_policy, check_two_policies, tuples_of_length, window_number, windows_up_to
)
from hindcost.systems.systems import check_system

MAX_TRIPLES = 1000


def reduced_policy(system, policy):
    """Return the policy with one memory for each class of equivalent memories that is reached."""
    check_system(system)
    check_policy(system, policy)
    lookahead, states, moves, first = policy
    reached = reached_memories(moves, first)
    places = {memory: place for place, memory in enumerate(reached)}
    kept_states = [states[memory] for memory in reached]
    kept_moves = [[places[target] for target in moves[memory]] for memory in reached]
    # The classes are numbered as the search comes to them, since equivalent memories lead to the same classes.
    classes = equivalence_classes(kept_states, kept_moves)
    leaders = first_places(classes)
    new_states = tuple([kept_states[place] for place in leaders])
    new_moves = tuple([tuple([classes[target] for target in kept_moves[place]]) for place in leaders])
    return lookahead, new_states, new_moves, 0


def different_run(system, first, second):
    """Return the smallest of the shortest request tuples on which the schedules differ, or None."""
    check_system(system)
    check_two_policies(system, first, second)
    requests = len(system[1])
    ways = ways_to_triples(requests, first, second)
    # Request tuples with fewer requests than the look-ahead lead to no triple.
    for pending in windows_up_to(requests, first[0] - 1):
        if is_different(requests, first, second, (first[3], second[3], pending)):
            return pending
    for triple in ways:
        if is_different(requests, first, second, triple):
            start, arrivals = way_to(ways, triple)
            return start[2] + arrivals
    return None


def reached_memories(moves, first):
    """Return the memories to which windows lead from the first one, in the order of a breadth-first search."""
    return list(search_ways([first], len(moves[first]), lambda memory, number: moves[memory][number], len(moves)))


def equivalence_classes(states, moves):
    """Return the number of the class of each memory; the classes are numbered in the order in which they occur."""
    classes = numbers_of_keys(states)
    before = 0
    while max(classes) + 1 > before:
        before = max(classes) + 1
        keys = [(number, tuple([classes[target] for target in row])) for number, row in zip(classes, moves)]
        classes = numbers_of_keys(keys)
    return classes


def numbers_of_keys(keys):
    """Return a number for each key, from 0 in the order in which the keys occur, equal for equal keys."""
    numbers = {}
    for key in keys:
        if key not in numbers:
            numbers[key] = len(numbers)
    return [numbers[key] for key in keys]


def first_places(classes):
    """Return the first place of each class, in the order of the classes."""
    places = {}
    for place, number in enumerate(classes):
        if number not in places:
            places[number] = place
    return list(places.values())


def ways_to_triples(requests, first, second):
    """Return the search for all triples of both memories and the requests that are known next."""
    starts = [(first[3], second[3], pending) for pending in tuples_of_length(requests, first[0])]
    return search_ways(
        starts, requests, lambda triple, request: next_triple(requests, first, second, triple, request), MAX_TRIPLES
    )


def next_triple(requests, first, second, triple, request):
    """Return the triple after the arrival of the request."""
    one, other, pending = triple
    window = pending + (request,)
    number = window_number(requests, window)
    return first[2][one][number], second[2][other][number], window[1:]


def is_different(requests, first, second, triple):
    """Return whether the states differ at the triple, or while its known requests are served as the last ones."""
    one, other, pending = triple
    for at in range(len(pending)):
        if first[1][one] != second[1][other]:
            return True
        number = window_number(requests, pending[at:])
        one = first[2][one][number]
        other = second[2][other][number]
    return first[1][one] != second[1][other]
