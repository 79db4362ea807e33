"""[4.3]: runs of a policy."""

import random
import unittest

from hindcost.errors import InvalidPolicy, InvalidSequence, InvalidSystem
from hindcost.policies.policies import next_memory
from hindcost.policies.runs import run_cost, run_memories, run_schedule
from hindcost.schedules.schedules import is_schedule, optimum, schedule_cost
from tests.helpers import A, MOVE, ODD, STAY, assert_error, cost_by_hand, product_of, random_policy, random_systems

# With look-ahead 1: the window decides by its last request where to go, and a window of one request goes to state 1.
LAST = (1, (0, 1), ((1, 1, 0, 1, 0, 1), (1, 1, 0, 1, 0, 1)), 0)


def memories_by_hand(system, policy, sequence):
    memory = policy[3]
    found = []
    for at in range(len(sequence)):
        memory = next_memory(system, policy, memory, sequence[at:at + policy[0] + 1])
        found.append(memory)
    return tuple(found)


class TestRuns(unittest.TestCase):
    def test_example(self):
        found = (run_memories(A, MOVE, (1, 0, 1)), run_schedule(A, STAY, (1, 0, 1)), run_cost(A, MOVE, (1, 0, 1)))
        self.assertEqual(found, ((1, 0, 1), (0, 0, 0), 3))

    def test_empty_sequence(self):
        for policy in (MOVE, STAY, LAST):
            found = (run_memories(A, policy, ()), run_schedule(A, policy, ()), run_cost(A, policy, ()))
            self.assertEqual(found, ((), (), 0))

    def test_windows_that_are_not_full_at_the_end(self):
        self.assertEqual(run_memories(A, LAST, (0,)), (1,))
        self.assertEqual(run_memories(A, LAST, (1, 0)), (0, 1))
        self.assertEqual(run_memories(A, LAST, (0, 1)), (1, 1))
        self.assertEqual(run_memories(A, LAST, (0, 1, 0, 0)), (1, 0, 0, 1))

    def test_lookahead_two(self):
        # Two requests: 14 windows, and the memory to go to is the index of the window; all states are allowed.
        system = (((0, 1), (1, 0)), ((0, 0), (0, 0)), 0)
        policy = (2, (0,) * 7 + (1,) * 7, (tuple(range(14)),) * 14, 0)
        self.assertEqual(run_memories(system, policy, (1,)), (1,))
        self.assertEqual(run_memories(system, policy, (1, 0)), (4, 0))
        self.assertEqual(run_memories(system, policy, (1, 0, 1)), (11, 3, 1))
        self.assertEqual(run_memories(system, policy, (0, 0, 0, 1, 1)), (6, 7, 9, 5, 1))
        self.assertEqual(run_schedule(system, policy, (0, 0, 0, 1, 1)), (0, 1, 1, 0, 0))
        self.assertEqual(run_cost(system, policy, (0, 0, 0, 1, 1)), 2)

    def test_memories_are_not_states(self):
        policy = (0, (1, 0, 1), ((1, 2), (1, 0), (1, 2)), 1)
        self.assertEqual(run_memories(A, policy, (1, 1, 0)), (0, 2, 1))
        self.assertEqual(run_schedule(A, policy, (1, 1, 0)), (1, 1, 0))
        self.assertEqual(run_cost(A, policy, (1, 1, 0)), 2)

    def test_random_policies(self):
        rng = random.Random(12)
        for system in random_systems(13, 25):
            for lookahead in (0, 1, 2):
                policy = random_policy(rng, system, lookahead, 5)
                for length in range(5):
                    for sequence in product_of(len(system[1]), length):
                        memories = memories_by_hand(system, policy, sequence)
                        schedule = tuple(policy[1][memory] for memory in memories)
                        self.assertEqual(run_memories(system, policy, sequence), memories)
                        self.assertEqual(run_schedule(system, policy, sequence), schedule)
                        self.assertTrue(is_schedule(system, sequence, schedule))
                        cost = run_cost(system, policy, sequence)
                        self.assertEqual(cost, cost_by_hand(system, sequence, schedule))
                        self.assertEqual(cost, schedule_cost(system, sequence, schedule))
                        self.assertGreaterEqual(cost, optimum(system, sequence))

    def test_longest_sequence(self):
        sequence = (1, 0) * 200
        self.assertEqual(run_memories(A, MOVE, sequence), sequence)
        self.assertEqual(run_schedule(A, STAY, sequence), (0,) * 400)
        self.assertEqual((run_cost(A, MOVE, sequence), run_cost(A, STAY, sequence)), (400, 400))
        self.assertEqual(run_memories(A, LAST, sequence), (0, 1) * 200)
        for function in (run_memories, run_schedule, run_cost):
            assert_error(self, InvalidSequence, None, function, A, MOVE, sequence + (0,))

    def test_largest_policy(self):
        system = (((0, 1), (1, 0)), ((0, 0),), 0)
        policy = (0, (0,) * 1000, tuple(((m + 3) % 1000,) for m in range(1000)), 999)
        self.assertEqual(run_memories(system, policy, (0,) * 400), tuple((999 + 3 * k) % 1000 for k in range(1, 401)))

    def test_errors(self):
        for function in (run_memories, run_schedule, run_cost):
            for sequence in (None, [0], (2,), (True,), ((0,),), "01", {0: 1}, 0, (0, -1)):
                assert_error(self, InvalidSequence, None, function, A, MOVE, sequence)
                assert_error(self, InvalidPolicy, None, function, A, MOVE[:3] + (1,), sequence)
                assert_error(self, InvalidSystem, None, function, A[:2], MOVE[:3], sequence)
            for policy in ODD + (list(MOVE), (1,) + MOVE[1:]):
                assert_error(self, InvalidPolicy, None, function, A, policy, (0,))


if __name__ == "__main__":
    unittest.main()
