"""Stage 13: operations on systems."""

import itertools
import random
import unittest

from hindcost.errors import (
    InvalidNumber, InvalidOperation, InvalidPolicy, InvalidSystem, TooLarge, UnknownRequest, UnknownState,
)
from hindcost.games.games import game_positions
from hindcost.games.solver import value_of
from hindcost.instances.caches import cache_system
from hindcost.operations.operations import (
    product, restricted, scaled, side_by_side, with_request, with_start, without_request,
)
from hindcost.policies.policies import is_policy
from hindcost.policies.runs import run_cost, run_memories, run_schedule
from hindcost.ratios.fractions import compare_ratios, make_fraction
from hindcost.ratios.ratios import ratio_of
from hindcost.ratios.surcharges import surcharge_of
from hindcost.systems.systems import is_system, request_cost, switching_cost
from tests import slow
from tests.helpers import (
    A, EIGHT, MOVE, ODD, ONE, STAY, T, TWO, UNEVEN, assert_error, random_policy, random_system, random_systems,
    replacements, turning,
)

SYSTEMS = [A, T, ONE, UNEVEN, *random_systems(131, 40, sizes=(2, 3, 4, 5), requests=(1, 2, 3, 4))]
SEVEN = (A[0], A[1][:1] * 7, 0)
# Each switch costs 500, or 501.
HALF = (((0, 500), (500, 0)), ((0, 500),), 0)
MORE = (((0, 501), (501, 0)), ((0, 500),), 0)


def sized(states):
    """A system with this many states and one request."""
    table = tuple(tuple(int(s != t) for t in range(states)) for s in range(states))
    return (table, ((0,) * states,), states - 1)


def costs_of(system):
    return [cost for table in system[:2] for row in table for cost in row]


def value_or_none(system, **keywords):
    try:
        return value_of(system, **keywords)
    except TooLarge:
        return None


def scaled_by_hand(system, factor):
    def times(cost):
        return None if cost is None else cost * factor

    return (*(tuple(tuple(times(cost) for cost in row) for row in table) for table in system[:2]), system[2])


class TestScaled(unittest.TestCase):
    def test_example(self):
        self.assertEqual(scaled(A, 3), (((0, 3), (3, 0)), ((0, 6), (6, 0)), 0))

    def test_by_hand(self):
        for system in SYSTEMS:
            for factor in (1, 2, 7, 100):
                self.assertEqual(scaled(system, factor), scaled_by_hand(system, factor))
                self.assertIs(is_system(scaled(system, factor)), True)

    def test_costs_up_to_a_thousand(self):
        self.assertEqual(scaled(ONE, 1000), (((0, 1000), (1000, 0)), ((0, 0),), 0))
        for system, factor in ((HALF, 2), (T, 500), (A, 500), ((HALF[0], ((0, 1000),), 0), 1)):
            self.assertEqual(max(cost for cost in costs_of(scaled(system, factor)) if cost is not None), 1000)
        for system, factor in (
            (MORE, 2), (T, 501), (A, 501), (HALF, 3), (UNEVEN, 143), (HALF, 1000), (((HALF[0]), ((None, 1000),), 0), 2),
            ((ONE[0], ((0, 501),), 0), 2), ((ONE[0], ((501, None),), 0), 2),
        ):
            assert_error(self, TooLarge, ("limit", 1000), scaled, system, factor)

    def test_ratios_surcharges_and_values(self):
        for system, policy, offline, form in slow.random_cases(132, 60):
            keywords = {} if offline is None else {"offline": scaled(offline, 3)}
            ratio = ratio_of(system, policy, offline=offline)
            self.assertEqual(ratio_of(scaled(system, 3), policy, **keywords), ratio)
            if ratio != (1, 0):
                p, q = surcharge_of(system, policy, ratio, offline=offline)
                found = surcharge_of(scaled(system, 3), policy, ratio, **keywords)
                self.assertEqual(found, make_fraction(3 * p, q))
        for system, offline, lookahead in slow.random_games(133, 30):
            keywords = {} if offline is None else {"offline": scaled(offline, 5)}
            self.assertEqual(
                value_of(scaled(system, 5), lookahead=lookahead, **keywords),
                value_of(system, lookahead=lookahead, offline=offline),
            )

    def test_errors(self):
        for odd in ODD + (0, 1001, 5000):
            for system in (A, MORE):
                assert_error(self, InvalidNumber, ("value", odd), scaled, system, odd)
        for odd in ODD + (A[:2], list(A)):
            for factor in (1, 0, None):
                assert_error(self, InvalidSystem, None, scaled, odd, factor)


class TestRequests(unittest.TestCase):
    def test_examples(self):
        self.assertEqual(without_request(A, 0), (((0, 1), (1, 0)), ((2, 0),), 0))
        self.assertEqual(with_request(A, (1, None)), (((0, 1), (1, 0)), ((0, 2), (2, 0), (1, None)), 0))

    def test_without_by_hand(self):
        for system in SYSTEMS:
            many = len(system[1])
            for request in range(many):
                if many == 1:
                    assert_error(self, InvalidOperation, None, without_request, system, request)
                    continue
                rows = [row for at, row in enumerate(system[1]) if at != request]
                self.assertEqual(without_request(system, request), (system[0], tuple(rows), system[2]))
                self.assertIs(is_system(without_request(system, request)), True)
        self.assertEqual(without_request(EIGHT, 7), (EIGHT[0], EIGHT[1][:7], 0))

    def test_with_by_hand(self):
        for system in SYSTEMS:
            size = len(system[0])
            for costs in ((0,) * size, (None,) * (size - 1) + (1000,), (7,) + (None,) * (size - 1)):
                found = with_request(system, costs)
                self.assertEqual(found, (system[0], (*system[1], costs), system[2]))
                self.assertIs(is_system(found), True)
                self.assertEqual(without_request(found, len(system[1])), system)

    def test_eight_requests(self):
        self.assertEqual(len(with_request(SEVEN, (0, 3))[1]), 8)
        assert_error(self, TooLarge, ("limit", 8), with_request, EIGHT, (0, 3))
        for odd in ODD + ((0,), (0, 1, 2), (0, 1001), (None, None), (0, -1), [0, 3], (0, True)):
            for system in (A, SEVEN, EIGHT):
                assert_error(self, InvalidOperation, None, with_request, system, odd)

    def test_values(self):
        checked = 0
        for system, offline, lookahead in slow.random_games(134, 40):
            for request in range(len(system[1])):
                if len(system[1]) > 1:
                    less = value_or_none(
                        without_request(system, request), lookahead=lookahead,
                        offline=None if offline is None else without_request(offline, request),
                    )
                    if less is not None:
                        whole = value_of(system, lookahead=lookahead, offline=offline)
                        self.assertIn(compare_ratios(less, whole), (-1, 0))
                        checked += less != whole
        self.assertGreater(checked, 5)

    def test_longer_look_aheads_and_dearer_offline_systems(self):
        rng = random.Random(135)
        smaller = 0
        for system in SYSTEMS:
            values = [value_or_none(system, lookahead=lookahead) for lookahead in (0, 1, 2)]
            for first, second in zip(values, values[1:]):
                if first is not None and second is not None:
                    self.assertIn(compare_ratios(second, first), (-1, 0))
                    smaller += second != first
            rows = [[None if rng.random() < 0.3 else cost for cost in row] for row in system[1]]
            rows = [row if any(cost is not None for cost in row) else old for row, old in zip(rows, system[1])]
            dearer = (system[0], tuple(map(tuple, rows)), system[2])
            found = value_or_none(system, offline=dearer)
            if found is not None and values[0] is not None:
                self.assertIn(compare_ratios(found, values[0]), (-1, 0))
                smaller += found != values[0]
            found = value_or_none(system, offline=scaled(system, 3))
            if found is not None and values[0] is not None:
                self.assertEqual(found, make_fraction(values[0][0], values[0][1] * 3))
        self.assertGreater(smaller, 5)

    def test_errors(self):
        for odd in ODD + (2, -1, 8, (0,), [0]):
            assert_error(self, UnknownRequest, ("request", odd), without_request, A, odd)
        for odd in ODD + (1, -1, 8):
            assert_error(self, UnknownRequest, ("request", odd), without_request, ONE, odd)
        for odd in ODD + (A[:2], list(A)):
            for rest in (0, 5, None, (0, 0)):
                assert_error(self, InvalidSystem, None, without_request, odd, rest)
                assert_error(self, InvalidSystem, None, with_request, odd, rest)


class TestStart(unittest.TestCase):
    def test_example(self):
        self.assertEqual(with_start(A, 1), (((0, 1), (1, 0)), ((0, 2), (2, 0)), 1))

    def test_by_hand(self):
        for system in SYSTEMS:
            for state in range(len(system[0])):
                self.assertEqual(with_start(system, state), (system[0], system[1], state))
                self.assertIs(is_system(with_start(system, state)), True)

    def test_errors(self):
        for odd in ODD + (2, -1, (0,), [0]):
            assert_error(self, UnknownState, ("state", odd), with_start, A, odd)
        for odd in ODD + (A[:2], list(A)):
            for state in (0, 5, None):
                assert_error(self, InvalidSystem, None, with_start, odd, state)


class TestRestricted(unittest.TestCase):
    def test_example(self):
        self.assertEqual(
            restricted(cache_system(3, 2), (0, 2)), (((0, 1), (1, 0)), ((0, None), (0, 0), (None, 0)), 0)
        )

    def test_by_hand(self):
        kinds = set()
        for system in SYSTEMS:
            size = len(system[0])
            for count in range(size + 1):
                for states in itertools.combinations(range(size), count):
                    lost = any(all(row[s] is None for s in states) for row in system[1])
                    kinds.add((count >= 2, system[2] in states, lost))
                    if count < 2 or system[2] not in states or lost:
                        assert_error(self, InvalidOperation, None, restricted, system, states)
                        continue
                    found = restricted(system, states)
                    self.assertIs(is_system(found), True)
                    for (s, old), (t, other) in itertools.product(enumerate(states), repeat=2):
                        self.assertEqual(found[0][s][t], switching_cost(system, old, other))
                    for request, (s, old) in itertools.product(range(len(system[1])), enumerate(states)):
                        self.assertEqual(found[1][request][s], request_cost(system, request, old))
                    self.assertEqual(states[found[2]], system[2])
        self.assertGreaterEqual(len(kinds), 7)

    def test_all_states(self):
        for system in SYSTEMS:
            self.assertEqual(restricted(system, tuple(range(len(system[0])))), system)

    def test_errors(self):
        system = sized(4)
        wrong = (
            (), (3,), (0, 1), (0, 1, 2), (3, 0), (0, 3, 3), (0, 0, 3), (0, 4), (-1, 3), (3, 4), [0, 3], (0, True, 3),
            (False, 3), ((0, 3),), "03", {0: 3}, (0, "3"), (0, None, 3), 3, (0, 10**49), (0, 2, 1, 3),
        )
        for states in wrong + ODD:
            assert_error(self, InvalidOperation, None, restricted, system, states)
        for odd in ODD + (A[:2], list(A)):
            for states in ((0, 1), (), None):
                assert_error(self, InvalidSystem, None, restricted, odd, states)


class TestProduct(unittest.TestCase):
    def test_example(self):
        self.assertEqual(product(A, A), (
            ((0, 1, 1, 2), (1, 0, 2, 1), (1, 2, 0, 1), (2, 1, 1, 0)),
            ((0, 0, 2, 2), (2, 2, 0, 0), (0, 2, 0, 2), (2, 0, 2, 0)), 0,
        ))

    def test_by_hand(self):
        checked = 0
        for first, second in itertools.product(SYSTEMS[:25], repeat=2):
            size, other = len(first[0]), len(second[0])
            many = len(first[1])
            if size * other > 10 or many + len(second[1]) > 8:
                continue
            found = product(first, second)
            checked += 1
            self.assertIs(is_system(found), True)
            self.assertEqual((len(found[0]), len(found[1])), (size * other, many + len(second[1])))
            self.assertEqual(divmod(found[2], other), (first[2], second[2]))
            for one, two in itertools.product(range(size * other), repeat=2):
                (s, u), (t, v) = divmod(one, other), divmod(two, other)
                self.assertEqual(found[0][one][two], first[0][s][t] + second[0][u][v])
            for request, pair in itertools.product(range(len(found[1])), range(size * other)):
                s, u = divmod(pair, other)
                own = first[1][request][s] if request < many else second[1][request - many][u]
                self.assertEqual(found[1][request][pair], own)
        self.assertGreater(checked, 100)

    def test_ten_states(self):
        self.assertEqual(len(product(sized(2), sized(5))[0]), 10)
        self.assertEqual(product(sized(5), sized(2))[2], 9)
        for first, second in ((2, 6), (6, 2), (3, 4), (4, 4), (10, 10), (10, 2)):
            assert_error(self, TooLarge, ("limit", 10), product, sized(first), sized(second))

    def test_eight_requests(self):
        self.assertEqual(len(product(SEVEN, ONE)[1]), 8)
        self.assertEqual(len(product((A[0], A[1] * 2, 0), (T[0], T[1] * 2, 0))[1]), 8)
        for first, second in ((SEVEN, TWO), (EIGHT, ONE), (ONE, EIGHT), (EIGHT, EIGHT)):
            assert_error(self, TooLarge, ("limit", 8), product, first, second)

    def test_costs_of_a_thousand(self):
        self.assertEqual(product(HALF, HALF)[0][0][3], 1000)
        self.assertEqual(product(HALF, HALF)[1], ((0, 0, 500, 500), (0, 500, 0, 500)))
        for first, second in ((HALF, MORE), (MORE, HALF), (MORE, MORE)):
            assert_error(self, TooLarge, ("limit", 1000), product, first, second)
        # The costs of requests are not added.
        dear = (ONE[0], ((1000, 1000),), 0)
        self.assertEqual(product(dear, dear)[1], ((1000,) * 4, (1000,) * 4))

    def test_order_of_limits(self):
        many = (MORE[0], MORE[1] * 8, 0)
        wide = (tuple(tuple(0 if s == t else 600 for t in range(6)) for s in range(6)), ((0,) * 6,) * 8, 0)
        assert_error(self, TooLarge, ("limit", 10), product, wide, many)
        assert_error(self, TooLarge, ("limit", 10), product, many, wide)
        assert_error(self, TooLarge, ("limit", 8), product, many, MORE)
        assert_error(self, TooLarge, ("limit", 1000), product, MORE, MORE)

    def test_values(self):
        checked = set()
        rng = random.Random(136)
        while len(checked) < 12:
            systems = [random_system(rng, 2, rng.choice((1, 2))) for _ in range(4)]
            if len({len(systems[0][1]), len(systems[2][1])}) > 1 or len({len(systems[1][1]), len(systems[3][1])}) > 1:
                continue
            first, second, offline, other = systems
            both = product(first, second)
            for keywords in ({}, {"offline": product(offline, other)}):
                found = value_or_none(both, **keywords)
                if found is not None:
                    values = [
                        value_of(first, offline=offline if keywords else None),
                        value_of(second, offline=other if keywords else None),
                    ]
                    greater = values[0] if compare_ratios(values[0], values[1]) > 0 else values[1]
                    self.assertEqual(found, greater)
                    checked.add((found, bool(keywords)))
        self.assertEqual(value_of(product(A, T)), value_of(T))

    def test_errors(self):
        for odd in ODD + (A[:2], list(A)):
            assert_error(self, InvalidSystem, None, product, odd, A)
            assert_error(self, InvalidSystem, None, product, A, odd)
            assert_error(self, InvalidSystem, None, product, odd, sized(10))
            assert_error(self, InvalidSystem, None, product, sized(10), odd)


class TestSideBySide(unittest.TestCase):
    def test_example(self):
        self.assertEqual(side_by_side(A, MOVE, A, STAY), (0, (0, 2), ((0, 1, 0, 0), (0, 1, 1, 1)), 0))

    def test_runs_of_both(self):
        rng = random.Random(137)
        for _ in range(60):
            first, second = [random_system(rng, rng.choice((2, 3)), rng.choice((1, 2, 3))) for _ in range(2)]
            policies = [random_policy(rng, system, 0, rng.choice((2, 4))) for system in (first, second)]
            system = product(first, second) if len(first[0]) * len(second[0]) <= 10 else None
            both = side_by_side(first, policies[0], second, policies[1])
            self.assertIs(is_policy(system, both), True)
            many, other = len(first[1]), len(second[0])
            count = len(policies[1][1])
            self.assertEqual(len(both[1]), len(policies[0][1]) * count)
            self.assertEqual(divmod(both[3], count), (policies[0][3], policies[1][3]))
            for length in (0, 1, 2, 30):
                sequence = tuple(rng.randrange(many + len(second[1])) for _ in range(length))
                memories = [divmod(memory, count) for memory in run_memories(system, both, sequence)]
                states = [divmod(state, other) for state in run_schedule(system, both, sequence)]
                parts = [[], []]
                for at, request in enumerate(sequence):
                    parts[request >= many].append(request if request < many else request - many)
                    for which, part in enumerate((first, second)):
                        row = run_memories(part, policies[which], tuple(parts[which]))
                        memory = row[-1] if row else policies[which][3]
                        self.assertEqual(memories[at][which], memory)
                        self.assertEqual(states[at][which], policies[which][1][memory])
                self.assertEqual(run_cost(system, both, sequence), sum(
                    run_cost(part, policies[which], tuple(parts[which])) for which, part in enumerate((first, second))
                ))

    def test_memories_that_are_not_reached_stay(self):
        found = side_by_side(A, (0, (0, 1), ((0, 0), (1, 1)), 0), A, MOVE)
        self.assertEqual(found, (
            0, (0, 1, 2, 3), ((0, 0, 0, 1), (1, 1, 0, 1), (2, 2, 2, 3), (3, 3, 2, 3)), 0,
        ))

    def test_a_thousand_memories(self):
        found = side_by_side(ONE, turning(40, 0, 1), ONE, turning(25, 0, 1))
        self.assertEqual(len(found[1]), 1000)
        self.assertIs(is_policy(product(ONE, ONE), found), True)
        self.assertEqual(len(side_by_side(ONE, turning(1000, 0, 1), ONE, STAY_ONE)[1]), 1000)
        for first, second in ((1000, 2), (2, 1000), (1000, 1000), (77, 13), (13, 77)):
            arguments = (ONE, turning(first, 0, 1), ONE, turning(second, 0, 1))
            assert_error(self, TooLarge, ("limit", 1000), side_by_side, *arguments)

    def test_order_of_errors(self):
        ahead = turning(1, 1, 2)
        wrong_systems = ODD + (A[:2], list(A))
        wrong_policies = ODD + (list(MOVE), MOVE[:3], ahead, turning(1, 2, 2), turning(1, 0, 1), MOVE[:3] + (1,))
        for odd in wrong_systems:
            assert_error(self, InvalidSystem, None, side_by_side, odd, None, odd, None)
            assert_error(self, InvalidSystem, None, side_by_side, odd, MOVE, A, MOVE)
            assert_error(self, InvalidSystem, None, side_by_side, A, MOVE, odd, None)
            # The first policy is checked before the second system.
            assert_error(self, InvalidPolicy, None, side_by_side, A, ahead, odd, MOVE)
        for odd in wrong_policies:
            assert_error(self, InvalidPolicy, None, side_by_side, A, odd, None, None)
            assert_error(self, InvalidPolicy, None, side_by_side, A, odd, A, MOVE)
            assert_error(self, InvalidPolicy, None, side_by_side, A, MOVE, A, odd)
        for odd in replacements(MOVE):
            assert_error(self, InvalidPolicy, None, side_by_side, A, odd, A, MOVE)
            assert_error(self, InvalidPolicy, None, side_by_side, A, MOVE, A, odd)

    def test_errors_of_the_product(self):
        def stay(system):
            return turning(1, 0, len(system[1]))[:1] + ((system[2],),) + turning(1, 0, len(system[1]))[2:]

        many = (MORE[0], MORE[1] * 8, 0)
        for first, second, limit in (
            (sized(6), sized(2), 10), (sized(10), EIGHT, 10), (EIGHT, ONE, 8), (many, MORE, 8), (HALF, MORE, 1000),
        ):
            arguments = (first, stay(first), second, stay(second))
            assert_error(self, TooLarge, ("limit", limit), side_by_side, *arguments)
            # An invalid second policy comes first.
            assert_error(self, InvalidPolicy, None, side_by_side, *arguments[:3], MOVE[:3])
        # The limits of the product come before the limit of memories.
        arguments = (EIGHT, turning(40, 0, 8), EIGHT, turning(40, 0, 8))
        assert_error(self, TooLarge, ("limit", 8), side_by_side, *arguments)


# A policy for the system with one request.
STAY_ONE = (0, (0,), ((0,),), 0)


class TestSizes(unittest.TestCase):
    def test_products_have_many_game_positions(self):
        self.assertEqual(len(game_positions(product(A, A))), 16)


if __name__ == "__main__":
    unittest.main()
