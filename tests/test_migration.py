"""Stage 12: migration of a file."""

import itertools
import random
import unittest

from hindcost.errors import InvalidInstance, InvalidNumber
from hindcost.games.solver import value_of
from hindcost.instances.migration import migration_policy, migration_system
from hindcost.policies.policies import is_policy
from hindcost.policies.runs import run_cost, run_schedule
from hindcost.ratios.fractions import compare_ratios
from hindcost.ratios.ratios import ratio_of
from hindcost.systems.systems import is_system
from tests import slow
from tests.helpers import MOVE, ODD, T, assert_error, random_switching, replacements
from tests.simulations import File, policy_by_simulation, schedule_by_simulation

# The distances from one node to another differ by direction.
UNEVEN = ((0, 3, 5), (1, 0, 2), (4, 6, 0))
FAR = ((0, 100), (100, 0))


def even(nodes):
    return tuple(tuple(int(s != t) for t in range(nodes)) for s in range(nodes))


class TestSystems(unittest.TestCase):
    def test_example(self):
        self.assertEqual(migration_system(((0, 1), (1, 0)), 2), (((0, 2), (2, 0)), ((0, 1), (1, 0)), 0))

    def test_by_hand(self):
        # An access from node v costs the distance from the node of the file to v.
        self.assertEqual(migration_system(UNEVEN, 7), (
            ((0, 21, 35), (7, 0, 14), (28, 42, 0)), ((0, 1, 4), (3, 0, 6), (5, 2, 0)), 0,
        ))
        self.assertEqual(migration_system(FAR, 10), (((0, 1000), (1000, 0)), ((0, 100), (100, 0)), 0))

    def test_systems(self):
        rng = random.Random(121)
        for nodes in (2, 3, 4, 5):
            for distances in [even(nodes)] + [random_switching(rng, nodes, 100) for _ in range(5)]:
                for size in (1, 2, 9, 10):
                    system = migration_system(distances, size)
                    self.assertIs(is_system(system), True)
                    switching, requests, start = system
                    for s, t in itertools.product(range(nodes), repeat=2):
                        self.assertEqual(switching[s][t], size * distances[s][t])
                        self.assertEqual(requests[t][s], distances[s][t])
                    self.assertEqual((len(requests), start), (nodes, 0))


class TestPolicies(unittest.TestCase):
    def test_example(self):
        self.assertEqual(migration_policy(2, 2), (0, (0, 0, 1, 1), ((0, 1), (0, 2), (3, 2), (0, 2)), 0))

    def test_patience_of_one(self):
        # The file moves at once, so its node is all that is kept in mind.
        for nodes in (2, 3, 4, 5):
            every = tuple(range(nodes))
            self.assertEqual(migration_policy(nodes, 1), (0, every, (every,) * nodes, 0))

    def test_memories_in_their_order(self):
        for nodes in (2, 3, 4, 5):
            for patience in (1, 2, 3, 19, 20):
                policy = migration_policy(nodes, patience)
                self.assertIs(is_policy(migration_system(even(nodes), 1), policy), True)
                expected = policy_by_simulation(lambda: File(patience), 0, nodes, range(nodes))
                self.assertEqual(policy, expected, (nodes, patience))
                self.assertEqual(len(policy[1]), nodes * (1 + (nodes - 1) * (patience - 1)))

    def test_schedules(self):
        rng = random.Random(122)
        for nodes, longest in ((2, 9), (3, 6), (5, 4)):
            system = migration_system(even(nodes), 1)
            short = [row for length in range(longest) for row in itertools.product(range(nodes), repeat=length)]
            long = []
            for _ in range(20):
                row = []
                while len(row) < 380:
                    row += [rng.randrange(nodes)] * rng.choice((1, 1, 2, 3, 19, 20, 21))
                long.append(tuple(row[:400]))
            for patience in (1, 2, 3, 4, 19, 20):
                policy = migration_policy(nodes, patience)
                for sequence in short + long:
                    found = list(run_schedule(system, policy, sequence))
                    self.assertEqual(found, schedule_by_simulation(File(patience), 0, sequence))

    def test_interrupted_rows(self):
        cases = (
            ((1, 1, 1), (0, 0, 1)),
            # Node 2, node 0 with the file, and node 2 again come between; then the count is anew.
            ((1, 1, 2, 1, 1, 1), (0, 0, 0, 0, 0, 1)),
            ((1, 1, 0, 1, 1, 1), (0, 0, 0, 0, 0, 1)),
            ((2, 1, 2, 1, 2, 2, 2), (0, 0, 0, 0, 0, 0, 2)),
            # After the move the old node needs as many accesses as any other one.
            ((1, 1, 1, 0, 0, 1, 0, 0, 0), (0, 0, 1, 1, 1, 1, 1, 1, 0)),
            ((1, 1, 1, 2, 2, 0, 2, 2, 2), (0, 0, 1, 1, 1, 1, 1, 1, 2)),
        )
        system = migration_system(even(3), 1)
        for sequence, expected in cases:
            self.assertEqual(run_schedule(system, migration_policy(3, 3), sequence), expected)

    def test_the_access_is_served_after_the_move(self):
        system = migration_system(UNEVEN, 10)
        self.assertEqual(run_cost(system, migration_policy(3, 1), (2,)), 50)
        self.assertEqual(run_cost(system, migration_policy(3, 2), (2, 2, 2)), 5 + 50)
        self.assertEqual(run_cost(system, migration_policy(3, 2), (2, 2, 1)), 5 + 50 + 6)

    def test_patience_of_twenty(self):
        system = migration_system(FAR, 10)
        self.assertEqual(run_cost(system, migration_policy(2, 20), (1,) * 19), 1900)
        self.assertEqual(run_cost(system, migration_policy(2, 20), (1,) * 25), 1900 + 1000)
        self.assertEqual(run_schedule(system, migration_policy(2, 20), (1,) * 21), (0,) * 19 + (1, 1))

    def test_ratios(self):
        # A file of size 2 between two nodes at distance 1; no patience is as good as the best policy.
        system = migration_system(((0, 1), (1, 0)), 2)
        self.assertEqual(system, T)
        self.assertEqual(migration_policy(2, 1), MOVE)
        self.assertEqual(ratio_of(system, migration_policy(2, 1)), (4, 1))
        self.assertEqual(value_of(system), (5, 2))
        for patience in range(1, 6):
            policy = migration_policy(2, patience)
            found = ratio_of(system, policy)
            self.assertEqual(found, slow.ratio_by_hand(slow.edges_by_hand(system, system, policy)))
            self.assertEqual(compare_ratios((5, 2), found), -1)


class TestErrors(unittest.TestCase):
    def test_distances(self):
        wrong = [
            ((0,),), even(6), even(10), ((0, 101), (1, 0)), ((0, 1), (101, 0)), ((0, 0), (1, 0)), ((1, 1), (1, 0)),
            ((0, 1),), ((0, 1, 1), (1, 0, 1)), ((0, 1), (1, 0, 1)), [[0, 1], [1, 0]], ((0, 1), [1, 0]),
            ((0, 9, 1), (1, 0, 1), (1, 1, 0)), ((0, True), (1, 0)), ((False, 1), (1, 0)), ((0, None), (1, 0)),
            ((0, 1000), (1000, 0)),
        ]
        for distances in wrong + list(ODD) + list(replacements(((0, 2), (3, 0)))):
            for size in (1, 0, None):
                assert_error(self, InvalidInstance, None, migration_system, distances, size)

    def test_size(self):
        for odd in ODD + (0, 11, 100):
            assert_error(self, InvalidNumber, ("value", odd), migration_system, ((0, 1), (1, 0)), odd)

    def test_numbers(self):
        for nodes in ODD + (0, 1, 6, 7):
            for patience in (1, 0, 21, None):
                assert_error(self, InvalidNumber, ("value", nodes), migration_policy, nodes, patience)
        for patience in ODD + (0, 21, 400):
            for nodes in (2, 3, 4, 5):
                assert_error(self, InvalidNumber, ("value", patience), migration_policy, nodes, patience)


if __name__ == "__main__":
    unittest.main()
