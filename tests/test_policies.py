"""[4.1] and [4.2]: windows and policies."""

import random
import unittest

from hindcost.errors import InvalidNumber, InvalidPolicy, InvalidSequence, InvalidSystem
from hindcost.policies import policies
from hindcost.policies.policies import is_policy, next_memory, windows
from tests.helpers import (
    A, MOVE, ODD, STAY, T, UNEVEN, all_windows, assert_error, product_of, random_policy, random_systems, replacements,
    window_count,
)


def plain(requests, size=2):
    """A system in which all states are allowed for so many requests."""
    table = tuple(tuple(0 if s == t else 1 for t in range(size)) for s in range(size))
    return (table, ((0,) * size,) * requests, 0)


def constant(lookahead, memories, count):
    """A policy in which all of so many memories lead to memory 0, with so many windows."""
    return (lookahead, (0,) * memories, ((0,) * count,) * memories, 0)


class TestWindows(unittest.TestCase):
    def test_constants(self):
        self.assertEqual((policies.MAX_LOOKAHEAD, policies.MAX_MEMORIES, policies.MAX_MOVES), (2, 1000, 20000))

    def test_example(self):
        self.assertEqual(windows(A, 1), ((0,), (1,), (0, 0), (0, 1), (1, 0), (1, 1)))

    def test_no_lookahead(self):
        self.assertEqual(windows(A, 0), ((0,), (1,)))
        self.assertEqual(windows(plain(1), 2), ((0,), (0, 0), (0, 0, 0)))

    def test_all_numbers_of_requests(self):
        for requests in range(1, 9):
            for lookahead in (0, 1, 2):
                found = windows(plain(requests), lookahead)
                self.assertEqual(found, tuple(all_windows(requests, lookahead)))
                self.assertEqual(len(found), window_count(requests, lookahead))

    def test_errors(self):
        for lookahead in ODD + (3, 4, 100):
            assert_error(self, InvalidNumber, ("value", lookahead), windows, A, lookahead)
            assert_error(self, InvalidSystem, None, windows, A[:2], lookahead)


class TestIsPolicy(unittest.TestCase):
    def test_examples(self):
        self.assertEqual([is_policy(A, MOVE), is_policy(A, MOVE[:3] + (1,))], [True, False])
        self.assertEqual([is_policy(A, STAY), is_policy(T, MOVE), is_policy(T, STAY)], [True, True, True])

    def test_random_policies(self):
        rng = random.Random(9)
        for system in random_systems(10, 30):
            for lookahead in (0, 1, 2):
                for memories in (1, 4, 9):
                    self.assertIs(is_policy(system, random_policy(rng, system, lookahead, memories)), True)

    def test_lookahead(self):
        for lookahead in range(-1, 5):
            value = constant(lookahead, 1, window_count(2, max(lookahead, 0)))
            self.assertIs(is_policy(A, value), 0 <= lookahead <= 2, lookahead)
        self.assertIs(is_policy(A, (-1, (0,), ((),), 0)), False)
        for lookahead in ODD + (1, 2):
            self.assertIs(is_policy(A, (lookahead,) + MOVE[1:]), False, lookahead)

    def test_one_entry_for_each_window(self):
        for lookahead in (0, 1, 2):
            right = window_count(2, lookahead)
            for count in range(20):
                self.assertIs(is_policy(A, constant(lookahead, 2, count)), count == right, count)
            short = ((0,) * right, (0,) * (right - 1))
            self.assertIs(is_policy(A, (lookahead, (0, 0), short, 0)), False)

    def test_one_row_for_each_memory(self):
        for rows in range(5):
            self.assertIs(is_policy(A, (0, (0, 0, 0), ((0, 0),) * rows, 0)), rows == 3, rows)

    def test_number_of_memories(self):
        self.assertIs(is_policy(A, (0, (), (), 0)), False)
        self.assertIs(is_policy(A, constant(0, 1, 2)), True)
        self.assertIs(is_policy(A, constant(0, 1000, 2)), True)
        self.assertIs(is_policy(A, constant(0, 1001, 2)), False)
        self.assertIs(is_policy(plain(1), constant(0, 1001, 1)), False)

    def test_memories_times_windows(self):
        # (requests, look-ahead, greatest number of memories)
        cases = (
            (4, 1, 1000), (5, 1, 666), (8, 1, 277), (8, 2, 34), (3, 2, 512), (2, 2, 1000), (8, 0, 1000), (4, 2, 238),
        )
        for requests, lookahead, most in cases:
            count = window_count(requests, lookahead)
            self.assertLessEqual(most * count, 20000)
            self.assertTrue((most + 1) * count > 20000 or most == 1000)
            system = plain(requests)
            self.assertIs(is_policy(system, constant(lookahead, most, count)), True, (requests, lookahead))
            self.assertIs(is_policy(system, constant(lookahead, most + 1, count)), False, (requests, lookahead))

    def test_states_of_memories(self):
        for state in range(-1, 4):
            self.assertIs(is_policy(A, (0, (0, state), ((0, 0), (0, 0)), 0)), 0 <= state <= 1, state)
        self.assertIs(is_policy(plain(2, 10), (0, (0, 9), ((1, 1), (0, 0)), 0)), True)
        self.assertIs(is_policy(plain(2, 10), (0, (0, 10), ((0, 0), (0, 0)), 0)), False)

    def test_moves_lead_to_memories(self):
        for memory in range(-2, 5):
            for moves in (((memory, 0), (0, 0)), ((0, memory), (0, 0)), ((0, 0), (memory, 0)), ((0, 0), (0, memory))):
                self.assertIs(is_policy(A, (0, (0, 1), moves, 0)), 0 <= memory <= 1, moves)

    def test_first_memory(self):
        states = (1, 0, 1, 0)
        moves = ((1, 1),) * 4
        for first in range(-1, 6):
            self.assertIs(is_policy(A, (0, states, moves, first)), first in (1, 3), first)
            other = (A[0], A[1], 1)
            self.assertIs(is_policy(other, (0, states, moves, first)), first in (0, 2), first)

    def test_states_allowed_for_the_first_request_of_the_window(self):
        # Request 0 is allowed in state 0 alone, request 1 in state 1 alone.
        system = (((0, 1), (1, 0)), ((0, None), (None, 0)), 0)
        for lookahead in (0, 1, 2):
            order = all_windows(2, lookahead)
            row = tuple(window[0] for window in order)
            self.assertIs(is_policy(system, (lookahead, (0, 1), (row, row), 0)), True)
            for at, window in enumerate(order):
                wrong = row[:at] + (1 - window[0],) + row[at + 1:]
                self.assertIs(is_policy(system, (lookahead, (0, 1), (wrong, row), 0)), False, window)
                self.assertIs(is_policy(system, (lookahead, (0, 1), (row, wrong), 0)), False, window)

    def test_rules_hold_for_memories_that_are_never_reached(self):
        system = (((0, 1), (1, 0)), ((0, None),), 0)
        self.assertIs(is_policy(system, (0, (0, 1), ((0,), (0,)), 0)), True)
        self.assertIs(is_policy(system, (0, (0, 1), ((0,), (1,)), 0)), False)
        self.assertIs(is_policy(system, (0, (0, 2), ((0,), (0,)), 0)), False)
        self.assertIs(is_policy(system, (0, (0, 1), ((0,), (2,)), 0)), False)
        self.assertIs(is_policy(system, (0, (0, 1), ((0,), ()), 0)), False)

    def test_other_kinds(self):
        parts = (list(MOVE), MOVE[:3], MOVE + (0,), (MOVE,), [MOVE], {0: MOVE}, (0, [0, 1], MOVE[2], 0))
        for value in ODD + parts + ((0, (0, 1), [(0, 1), (0, 1)], 0), (0, (0, 1), ((0, 1), [0, 1]), 0)):
            self.assertIs(is_policy(A, value), False, value)
        for value in replacements(MOVE):
            self.assertIs(is_policy(A, value), False, value)
        for value in (MOVE, None, [0]):
            assert_error(self, InvalidSystem, None, is_policy, A[:2], value)

    def test_policy_of_another_system(self):
        self.assertIs(is_policy(plain(3), MOVE), False)
        self.assertIs(is_policy(UNEVEN, MOVE), False)


class TestNextMemory(unittest.TestCase):
    def test_example(self):
        self.assertEqual(next_memory(A, MOVE, 0, (1,)), 1)

    def test_entry_of_each_window(self):
        rng = random.Random(11)
        for requests in (1, 2, 3, 5):
            for lookahead in (0, 1, 2):
                system = plain(requests)
                policy = random_policy(rng, system, lookahead, 20)
                for memory, row in enumerate(policy[2]):
                    for window, following in zip(all_windows(requests, lookahead), row):
                        self.assertEqual(next_memory(system, policy, memory, window), following)

    def test_entries_of_the_largest_tables(self):
        system = plain(8)
        row = tuple(k % 34 for k in range(584))
        policy = (2, (0,) * 34, (row,) * 34, 33)
        found = [next_memory(system, policy, 33, window) for window in ((7,), (0, 0), (7, 7), (0, 0, 0), (7, 7, 7))]
        self.assertEqual(found, [7, 8, 71 % 34, 72 % 34, 583 % 34])

    def test_invalid_memories(self):
        policy = constant(0, 5, 2)
        self.assertEqual(next_memory(A, policy, 4, (0,)), 0)
        for memory in ODD + (5, 6, 1000):
            assert_error(self, InvalidNumber, ("value", memory), next_memory, A, policy, memory, (0,))
            assert_error(self, InvalidNumber, ("value", memory), next_memory, A, policy, memory, ())
            assert_error(self, InvalidPolicy, None, next_memory, A, policy[:3], memory, ())

    def test_windows_of_the_lookahead(self):
        for lookahead in (0, 1, 2):
            policy = constant(lookahead, 1, window_count(2, lookahead))
            for length in range(6):
                for window in product_of(2, length):
                    if 1 <= length <= lookahead + 1:
                        self.assertEqual(next_memory(A, policy, 0, window), 0)
                    else:
                        assert_error(self, InvalidSequence, None, next_memory, A, policy, 0, window)

    def test_invalid_windows(self):
        policy = constant(1, 1, 6)
        for window in ODD + ([0], [0, 1], (2,), (0, 2), (2, 0), (0, True), (False,), ((0,),), (0,) * 500):
            assert_error(self, InvalidSequence, None, next_memory, A, policy, 0, window)


if __name__ == "__main__":
    unittest.main()
