"""Stage 11: servers."""

import itertools
import random
import unittest

from hindcost.errors import InvalidInstance, InvalidNumber, TooLarge
from hindcost.games.solver import value_of
from hindcost.instances.servers import server_policy, server_states, server_system
from hindcost.policies.policies import is_policy
from hindcost.policies.runs import run_schedule
from hindcost.ratios.ratios import ratio_of
from hindcost.systems.systems import is_system
from tests.helpers import ODD, assert_error
from tests.simulations import Servers, policy_by_simulation, schedule_by_simulation

WORDS = ("greedy", "double")
SIZES = [(1, 1), (2, 1), (3, 1), (4, 1), (1, 2), (2, 2), (3, 2), (1, 3), (2, 3)]
TOO_LARGE = [(4, 2), (3, 3), (4, 3)]


def points_after(last, servers, word, sequence):
    """The points of the servers after the sequence."""
    found = run_schedule(server_system(last, servers), server_policy(last, servers, word), sequence)
    return server_states(last, servers)[found[-1]]


class TestSystems(unittest.TestCase):
    def test_examples(self):
        self.assertEqual(server_states(2, 2), ((0, 0), (0, 1), (0, 2), (1, 1), (1, 2), (2, 2)))
        self.assertEqual(server_system(1, 1), (((0, 1), (1, 0)), ((0, None), (None, 0)), 0))

    def test_sizes(self):
        self.assertEqual(sorted(SIZES + TOO_LARGE), list(itertools.product((1, 2, 3, 4), (1, 2, 3))))

    def test_states(self):
        for last, servers in SIZES:
            expected = tuple(itertools.combinations_with_replacement(range(last + 1), servers))
            self.assertEqual(server_states(last, servers), expected)
            self.assertLessEqual(len(expected), 10)
        self.assertEqual([len(server_states(3, 2)), len(server_states(2, 3))], [10, 10])

    def test_systems(self):
        for last, servers in SIZES:
            system = server_system(last, servers)
            self.assertIs(is_system(system), True)
            states = server_states(last, servers)
            switching, requests, start = system
            for (s, old), (t, new) in itertools.product(enumerate(states), repeat=2):
                # No other way for the servers to change places is cheaper than the one in their order.
                ways = [sum(abs(a - b) for a, b in zip(old, other)) for other in itertools.permutations(new)]
                self.assertEqual(switching[s][t], min(ways))
            for point, costs in enumerate(requests):
                self.assertEqual(costs, tuple(0 if point in state else None for state in states))
            self.assertEqual((len(requests), start), (last + 1, 0))


class TestPolicies(unittest.TestCase):
    def test_example(self):
        self.assertEqual(server_policy(2, 2, "double"), (
            0, (0, 1, 2, 3, 4), ((0, 1, 2), (1, 1, 2), (2, 3, 2), (1, 3, 4), (2, 4, 4)), 0,
        ))

    def test_memories_in_their_order(self):
        for last, servers in SIZES:
            for word in WORDS:
                policy = server_policy(last, servers, word)
                self.assertIs(is_policy(server_system(last, servers), policy), True)
                self.assertEqual(policy, policy_by_simulation(
                    lambda: Servers(word, servers), 0, last + 1, server_states(last, servers)
                ), (last, servers, word))

    def test_schedules(self):
        rng = random.Random(112)
        for last, servers in SIZES:
            short = [row for length in range(5) for row in itertools.product(range(last + 1), repeat=length)]
            long = [tuple(rng.randrange(last + 1) for _ in range(400)) for _ in range(3)]
            for word in WORDS:
                system, policy = server_system(last, servers), server_policy(last, servers, word)
                states = server_states(last, servers)
                for sequence in short + long:
                    expected = schedule_by_simulation(Servers(word, servers), 0, sequence)
                    self.assertEqual([states[s] for s in run_schedule(system, policy, sequence)], expected)

    def test_a_server_on_the_point(self):
        for word in WORDS:
            self.assertEqual(points_after(3, 2, word, (0, 0)), (0, 0))
            self.assertEqual(points_after(3, 2, word, (3, 0, 3)), (0, 3))

    def test_servers_on_one_side(self):
        for word in WORDS:
            self.assertEqual(points_after(3, 2, word, (3,)), (0, 3))
            self.assertEqual(points_after(4, 1, word, (4, 1)), (1,))
            # Both servers stand to the left of the point; the nearer one moves.
            self.assertEqual(points_after(3, 2, word, (1, 3)), (0, 3))

    def test_equal_distances(self):
        # The servers stand on 0 and 2, and point 1 lies in the middle.
        self.assertEqual(points_after(2, 2, "greedy", (2, 1)), (1, 2))
        self.assertEqual(points_after(2, 2, "double", (2, 1)), (1, 1))
        # Three servers on 0, 0 and 2: only one of those on point 0 moves.
        self.assertEqual(points_after(2, 3, "greedy", (2, 1)), (0, 1, 2))
        self.assertEqual(points_after(2, 3, "double", (2, 1)), (0, 1, 1))

    def test_different_distances(self):
        # The servers stand on 0 and 3.
        self.assertEqual(points_after(3, 2, "greedy", (3, 1)), (1, 3))
        self.assertEqual(points_after(3, 2, "double", (3, 1)), (1, 2))
        self.assertEqual(points_after(3, 2, "greedy", (3, 2)), (0, 2))
        self.assertEqual(points_after(3, 2, "double", (3, 2)), (1, 2))

    def test_ratios(self):
        # Double coverage has the number of servers as its ratio, greedy is lost between two points.
        self.assertEqual([ratio_of(server_system(3, 2), server_policy(3, 2, word)) for word in WORDS], [(1, 0), (2, 1)])
        self.assertEqual(value_of(server_system(3, 2)), (2, 1))
        self.assertEqual([ratio_of(server_system(4, 1), server_policy(4, 1, word)) for word in WORDS], [(1, 1)] * 2)


class TestErrors(unittest.TestCase):
    CALLS = (
        (server_states, ()), (server_system, ()), (server_policy, ("greedy",)), (server_policy, ("lru",)),
        (server_policy, (None,)),
    )

    def test_numbers(self):
        for function, rest in self.CALLS:
            for last in ODD + (0, 5, 9, -1):
                for servers in (1, 0, 4, None):
                    assert_error(self, InvalidNumber, ("value", last), function, last, servers, *rest)
            for last in (1, 2, 3, 4):
                for servers in ODD + (0, 4, 7, -1):
                    assert_error(self, InvalidNumber, ("value", servers), function, last, servers, *rest)

    def test_more_than_ten_states(self):
        for function, rest in self.CALLS:
            for last, servers in TOO_LARGE:
                assert_error(self, TooLarge, ("limit", 10), function, last, servers, *rest)

    def test_words(self):
        for odd in ODD + ("Greedy", "greedy ", "front", ("double",), ["double"], 0, {"greedy": 1}):
            for last, servers in SIZES:
                assert_error(self, InvalidInstance, None, server_policy, last, servers, odd)


if __name__ == "__main__":
    unittest.main()
