"""Stage 9: values, best policies and adversary tables of games."""

import itertools
import random
import unittest

from hindcost.errors import InvalidNumber, InvalidOffline, InvalidSystem, TooLarge
from hindcost.games.certificates import is_game_solution
from hindcost.games.games import game_positions
from hindcost.games.solver import solve_game, value_of
from hindcost.policies.policies import is_policy
from hindcost.policies.runs import run_cost
from hindcost.ratios.fractions import compare_ratios, is_ratio
from hindcost.ratios.ratios import ratio_of
from hindcost.schedules.schedules import optimum
from tests import slow
from tests.helpers import (
    A, EIGHT, ODD, ONE, T, TWO, assert_error, only_one, random_policy, random_system, slides,
)

CASES = list(slow.random_games(91, 120))
PAYING = (TWO[0], ((1, 1), (1, 1)), 0)


def base_of(system, offline):
    return system if offline is None else offline


def cache(pages, capacity):
    """The cache system of [10.1] with weights 1."""
    states = list(itertools.combinations(range(pages), capacity))
    switching = tuple(tuple(len(set(t) - set(s)) for t in states) for s in states)
    return (switching, tuple(tuple(0 if page in s else None for s in states) for page in range(pages)), 0)


def ordered_list(items):
    """The list system of [11.1] with swap 1."""
    states = list(itertools.permutations(range(items)))

    def swaps(s, t):
        return sum((s.index(i) < s.index(j)) != (t.index(i) < t.index(j)) for i in range(items) for j in range(i))

    switching = tuple(tuple(swaps(s, t) for t in states) for s in states)
    return (switching, tuple(tuple(s.index(item) + 1 for s in states) for item in range(items)), 0)


def servers(last, count):
    """The server system of [11.3]."""
    states = list(itertools.combinations_with_replacement(range(last + 1), count))
    switching = tuple(tuple(sum(abs(a - b) for a, b in zip(s, t)) for t in states) for s in states)
    return (switching, tuple(tuple(0 if point in s else None for s in states) for point in range(last + 1)), 0)


def all_policies(system, memories):
    """All policies without look-ahead that have this many memories and begin with memory 0."""
    states, requests = range(len(system[0])), range(len(system[1]))
    for rest in itertools.product(states, repeat=memories - 1):
        held = (system[2], *rest)
        choices = [[m for m in range(memories) if system[1][r][held[m]] is not None] for r in requests]
        for row in itertools.product(*(choices * memories)):
            moves = tuple(row[at:at + len(requests)] for at in range(0, len(row), len(requests)))
            yield (0, held, moves, 0)


def dearer(rng, system):
    """The system with some costs of requests greater, or not allowed any more."""
    rows = []
    for row in system[1]:
        changed = [None if cost is None else cost + rng.choice((0, 0, 1, 3)) for cost in row]
        at = rng.randrange(len(row))
        if sum(cost is not None for cost in changed) > 1 or changed[at] is None:
            changed[at] = None
        rows.append(tuple(changed))
    return (system[0], tuple(rows), system[2])


class TestValueOf(unittest.TestCase):
    def test_examples(self):
        self.assertEqual([value_of(A), value_of(T)], [(1, 1), (5, 2)])
        value, best, adversary = solve_game(T)
        self.assertEqual([value, ratio_of(T, best[0])], [(5, 2), (5, 2)])
        self.assertIs(is_game_solution(T, (value, best, adversary)), True)

    def test_known_values(self):
        # [10.4] for caches; double coverage has the ratio of the number of servers on a line.
        for pages, capacity in ((2, 1), (3, 2), (4, 3), (4, 2), (3, 1)):
            self.assertEqual(value_of(cache(pages, capacity)), (capacity, 1))
        self.assertEqual(value_of(ordered_list(2)), (4, 3))
        self.assertEqual(value_of(servers(2, 2)), (2, 1))
        self.assertEqual(value_of(servers(3, 2)), (2, 1))
        # As many servers as points: once they are there, nothing is paid.
        self.assertEqual(value_of(servers(1, 2)), (0, 1))

    def test_zero_and_infinity(self):
        for lookahead in (0, 1, 2):
            self.assertEqual(value_of(TWO, lookahead=lookahead), (0, 1))
            self.assertEqual(value_of(TWO, offline=PAYING, lookahead=lookahead), (0, 1))
            self.assertEqual(value_of(PAYING, offline=TWO, lookahead=lookahead), (1, 0))
            self.assertEqual(value_of(PAYING, lookahead=lookahead), (1, 1))
            self.assertEqual(value_of(A, offline=(A[0], ((0, 0), (0, 0)), 0), lookahead=lookahead), (1, 0))

    def test_infinity_only_for_some_first_positions(self):
        # What is pending at first decides once and for all whether the offline system pays anything later.
        system = (((0, 1), (1, 0)), ((1, 1), (1, 1)), 0)
        offline = (((0, 1), (1, 0)), ((1, 1), (0, 0)), 0)
        self.assertEqual(value_of(system, offline=offline), (1, 0))
        self.assertEqual(value_of(system, offline=offline, lookahead=1), (1, 0))
        self.assertEqual(value_of((system[0], system[1][:1], 0), offline=(offline[0], offline[1][:1], 0)), (1, 1))

    def test_fraction_against_the_system_itself(self):
        for system, _, lookahead in CASES:
            try:
                found = value_of(system, lookahead=lookahead)
            except TooLarge:
                continue
            self.assertTrue(found == (0, 1) or compare_ratios((1, 1), found) <= 0 and found != (1, 0))
            self.assertEqual(value_of(system, offline=system, lookahead=lookahead), found)

    def test_against_all_ways_to_choose_moves(self):
        kinds = {}
        for system, offline, lookahead in CASES + list(slow.random_games(92, 60, sizes=(2,))):
            base = base_of(system, offline)
            if slow.count_of_choices(system, base, lookahead) <= 1100:
                found = value_of(system, offline=offline, lookahead=lookahead)
                self.assertEqual(found, slow.value_by_hand(system, base, lookahead), (system, offline, lookahead))
                kind = found if found in ((0, 1), (1, 0)) else "fraction"
                kinds[lookahead, kind] = kinds.get((lookahead, kind), 0) + 1
        self.assertEqual(len(kinds), 9)
        self.assertGreater(sum(kinds.values()), 60)

    def test_no_policy_of_two_memories_is_better(self):
        found = 0
        for system, offline, _ in slow.random_games(93, 25, lookaheads=(0,)):
            value = value_of(system, offline=offline)
            ratios = [ratio_of(system, policy, offline=offline) for policy in all_policies(system, 2)]
            for ratio in ratios:
                self.assertLessEqual(compare_ratios(value, ratio), 0)
            found += value in ratios
        self.assertGreater(found, 8)
        for policy in all_policies(T, 3):
            self.assertLessEqual(compare_ratios((5, 2), ratio_of(T, policy)), 0)

    def test_no_random_policy_is_better(self):
        rng = random.Random(94)
        for system, offline, lookahead in CASES:
            value = value_of(system, offline=offline, lookahead=lookahead)
            for memories in (2, 3, 6):
                policy = random_policy(rng, system, lookahead, memories)
                self.assertLessEqual(compare_ratios(value, ratio_of(system, policy, offline=offline)), 0)

    def test_longer_lookahead_is_never_worse(self):
        better = 0
        for system, offline, _ in CASES:
            values = []
            for lookahead in (0, 1, 2):
                try:
                    values.append(value_of(system, offline=offline, lookahead=lookahead))
                except TooLarge:
                    break
            for one, other in zip(values, values[1:]):
                self.assertGreaterEqual(compare_ratios(one, other), 0)
                better += one != other
        self.assertGreater(better, 5)

    def test_greater_offline_costs_are_never_worse(self):
        rng = random.Random(95)
        better = 0
        for system, offline, lookahead in CASES:
            base = base_of(system, offline)
            for _ in range(3):
                changed = dearer(rng, base)
                try:
                    values = [value_of(system, offline=other, lookahead=lookahead) for other in (base, changed)]
                except TooLarge:
                    continue
                self.assertGreaterEqual(compare_ratios(*values), 0)
                better += values[0] != values[1]
        self.assertGreater(better, 5)

    def test_scaled_costs(self):
        for system, _, lookahead in CASES[:40]:
            switching, table, start = system
            triple = (
                tuple(tuple(3 * cost for cost in row) for row in switching),
                tuple(tuple(None if cost is None else 3 * cost for cost in row) for row in table), start,
            )
            try:
                expected = value_of(system, lookahead=lookahead)
            except TooLarge:
                continue
            self.assertEqual(value_of(triple, lookahead=lookahead), expected)
            p, q = expected
            self.assertEqual(value_of(triple, offline=system, lookahead=lookahead), slow.quotient(3 * p, q))


class TestSolveGame(unittest.TestCase):
    def test_parts(self):
        kinds = set()
        for system, offline, lookahead in CASES:
            keywords = {"offline": offline, "lookahead": lookahead}
            solution = solve_game(system, **keywords)
            value, best, adversary = solution
            self.assertIs(is_game_solution(system, solution, **keywords), True)
            self.assertEqual(value, value_of(system, **keywords))
            self.assertTrue(is_ratio(value))
            self.assertEqual((best is None, adversary is None), (value == (1, 0), value == (0, 1)))
            if best is not None:
                self.assertTrue(is_policy(system, best[0]))
                self.assertEqual(best[0][0], lookahead)
                self.assertEqual(ratio_of(system, best[0], offline=offline), value)
                self.assertLessEqual(len(best[0][1]), len(game_positions(system, **keywords)))
            if adversary is not None:
                game = slow.game_by_hand(system, base_of(system, offline), lookahead)
                first = slow.game_starts(system, base_of(system, offline), lookahead)
                self.assertTrue(slow.table_holds(game, first, value, adversary))
            kinds.add((lookahead, value if value in ((0, 1), (1, 0)) else "fraction"))
        self.assertEqual(len(kinds), 9)

    def test_the_adversary_makes_each_policy_pay(self):
        rng = random.Random(96)
        for system, offline, lookahead in CASES:
            (p, q), _, adversary = solve_game(system, offline=offline, lookahead=lookahead)
            if adversary is None or q == 0:
                continue
            requests = {entry[0]: entry[1] for entry in adversary}
            numbers = [entry[2] for entry in adversary]
            policy = random_policy(rng, system, lookahead, 4)
            first = slow.game_starts(system, base_of(system, offline), lookahead)
            sequence = self.played(system, base_of(system, offline), policy, requests, min(set(first) & set(requests)))
            cost = run_cost(system, policy, sequence)
            bound = max(numbers) - min(numbers) + 40 * p + 40 * q
            self.assertGreaterEqual(q * cost, p * optimum(base_of(system, offline), sequence) - bound)
            self.assertGreater(cost, 0)

    def played(self, system, base, policy, requests, place):
        """The sequence of 150 requests that the adversary makes while the policy moves."""
        memory = policy[3]
        sequence = place[2]
        for _ in range(150):
            _, form, pending = place
            request = requests[place]
            (memory, form, pending), _, _ = slow.arrival(system, base, policy, (memory, form, pending), request)
            place = (policy[1][memory], form, pending)
            sequence += (request,)
        return sequence

    def test_windows_that_are_not_full_are_served_in_the_cheapest_way(self):
        for system, offline, lookahead in CASES:
            best = solve_game(system, offline=offline, lookahead=lookahead)[1]
            if best is not None:
                for length in range(lookahead + 1):
                    for sequence in itertools.product(range(len(system[1])), repeat=length):
                        self.assertEqual(run_cost(system, best[0], sequence), optimum(system, sequence))

    def test_equal_calls(self):
        for keywords in ({}, {"lookahead": 0}, {"offline": T}, {"offline": None, "lookahead": 0}, {"offline": T}):
            self.assertEqual(solve_game(T, **keywords), solve_game(T))


class TestSizes(unittest.TestCase):
    def test_three_hundred_positions_and_more(self):
        kept = ("limit", 300)
        system = only_one(2)
        for lookahead, pairs in ((0, 300), (1, 150), (2, 75)):
            more = slides(pairs - 2, 2, 2)
            keywords = {"offline": slides(pairs - 3, 2, 2), "lookahead": lookahead}
            self.assertEqual(len(game_positions(system, **keywords)), 300)
            self.assertEqual(value_of(system, **keywords), (0, 1))
            self.assertIs(is_game_solution(system, solve_game(system, **keywords), **keywords), True)
            for function in (value_of, solve_game):
                assert_error(self, TooLarge, kept, function, system, offline=more, lookahead=lookahead)

    def test_many_positions(self):
        rng = random.Random(97)
        found = 0
        while found < 12:
            requests = rng.choice((2, 3, 5, 8))
            system = random_system(rng, rng.choice((2, 3, 5, 10)), requests, rng.choice((5, 30, 1000)))
            lookahead = rng.choice((0, 0, 1, 2))
            try:
                if len(game_positions(system, lookahead=lookahead)) < 150:
                    continue
            except TooLarge:
                continue
            found += 1
            solution = solve_game(system, lookahead=lookahead)
            self.assertIs(is_game_solution(system, solution, lookahead=lookahead), True)

    def test_eight_requests(self):
        self.assertEqual(value_of(EIGHT, lookahead=2), (0, 1))
        many = (A[0], A[1] * 4, 0)
        self.assertEqual(len(game_positions(many, lookahead=2)), 256)
        solution = solve_game(many, lookahead=2)
        self.assertEqual(solution[0], (1, 1))
        self.assertIs(is_game_solution(many, solution, lookahead=2), True)
        many = (T[0], T[1] * 4, 0)
        self.assertEqual(value_of(many), (5, 2))
        self.assertEqual(compare_ratios(value_of(many, lookahead=1), (5, 2)), -1)


class TestErrors(unittest.TestCase):
    def test_order(self):
        for function in (value_of, solve_game):
            for odd in ODD + (-1, 3, [0], (0,), "1"):
                assert_error(self, InvalidNumber, ("value", odd), function, A, lookahead=odd)
                many = slides(500, 500, 2)
                assert_error(self, InvalidNumber, ("value", odd), function, A, lookahead=odd, offline=many)
                assert_error(self, InvalidSystem, None, function, odd, lookahead=odd, offline=odd)
                if odd is not None:
                    assert_error(self, InvalidOffline, None, function, A, lookahead=odd, offline=odd)
            assert_error(self, InvalidOffline, None, function, A, offline=ONE)
            assert_error(self, InvalidOffline, None, function, only_one(1), offline=slides(500, 500, 2))


if __name__ == "__main__":
    unittest.main()
