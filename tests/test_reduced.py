"""reduced_policy and different_run of stage 4."""

import itertools
import random
import unittest

from hindcost.errors import InvalidPolicy, InvalidSystem, TooLarge
from hindcost.policies.policies import is_policy
from hindcost.policies.reduced import different_run, reduced_policy
from hindcost.policies.runs import run_schedule
from tests.helpers import (
    A, EIGHT, MOVE, ODD, ONE, STAY, TWO, assert_error, product_of, random_policy, random_system, random_systems,
    renumbered, split_policy, turning, window_count,
)


def chain(states):
    """A policy for ONE with one memory after the other; the last one leads to itself."""
    last = len(states) - 1
    return (0, tuple(states), tuple((min(m + 1, last),) for m in range(len(states))), 0)


def ring(length):
    """A policy for ONE with a ring of memories that all have state 0."""
    return (0, (0,) * length, tuple(((m + 1) % length,) for m in range(length)), 0)


def different_memories(policy):
    """All pairs of memories that are not equivalent: other states, or a window leads to such a pair."""
    _, states, moves, _ = policy
    pairs = list(itertools.product(range(len(states)), repeat=2))
    found = {(a, b) for a, b in pairs if states[a] != states[b]}
    while True:
        more = {(a, b) for a, b in pairs if any(pair in found for pair in zip(moves[a], moves[b]))} - found
        if not more:
            return found
        found |= more


def reduced_by_hand(policy):
    """By the words of the document: classes in the order of a breadth-first search from that of the first memory."""
    lookahead, states, moves, first = policy
    different = different_memories(policy)
    leaders = [first]
    rows = []
    for leader in leaders:
        row = []
        for target in moves[leader]:
            same = [at for at, other in enumerate(leaders) if (target, other) not in different]
            if not same:
                leaders.append(target)
                same = [len(leaders) - 1]
            row.append(same[0])
        rows.append(tuple(row))
    return (lookahead, tuple(states[leader] for leader in leaders), tuple(rows), 0)


def different_by_hand(system, first, second, longest):
    for length in range(longest + 1):
        for sequence in product_of(len(system[1]), length):
            if run_schedule(system, first, sequence) != run_schedule(system, second, sequence):
                return sequence
    return None


class TestReducedPolicy(unittest.TestCase):
    def test_example(self):
        policy = (0, (1, 0, 0), ((0, 0), (2, 2), (1, 1)), 1)
        self.assertEqual(reduced_policy(A, policy), (0, (0,), ((0, 0),), 0))

    def test_reduced_already(self):
        self.assertEqual(reduced_policy(A, MOVE), MOVE)
        self.assertEqual(reduced_policy(A, STAY), STAY)

    def test_numbers_in_the_order_of_the_search(self):
        policy = (0, (1, 0), ((0, 1), (0, 1)), 1)
        self.assertEqual(reduced_policy(A, policy), (0, (0, 1), ((1, 0), (1, 0)), 0))
        states = (2, 1, 0, 3, 4)
        system = (tuple(tuple(int(s != t) for t in range(5)) for s in range(5)), ((0,) * 5, (0,) * 5), 0)
        moves = ((3, 3), (4, 4), (0, 1), (2, 2), (1, 1))
        found = reduced_policy(system, (0, states, moves, 2))
        self.assertEqual(found, (0, (0, 2, 1, 3, 4), ((1, 2), (3, 3), (4, 4), (0, 0), (2, 2)), 0))

    def test_memories_that_are_never_reached_are_left_out(self):
        policy = (0, (1, 0, 1), ((0, 1), (1, 1), (2, 0)), 1)
        self.assertEqual(reduced_policy(A, policy), STAY)

    def test_memories_that_only_a_window_at_the_end_leads_to(self):
        # The windows (0,) and (1,) lead to memory 1, all others to memory 0.
        policy = (1, (0, 1), ((1, 1, 0, 0, 0, 0), (1, 1, 0, 0, 0, 0)), 0)
        self.assertEqual(reduced_policy(TWO, policy), policy)

    def test_memories_that_differ_by_a_window_at_the_end(self):
        # Memories 0 and 1 lead to each other, except for the last window that is not full, (1,).
        policy = (1, (0, 0, 1), ((0, 0, 1, 1, 1, 1), (0, 2, 0, 0, 0, 0), (2, 2, 2, 2, 2, 2)), 0)
        self.assertEqual(reduced_policy(TWO, policy), policy)
        same = (1, (0, 0, 1), ((0, 0, 1, 1, 1, 1), (0, 0, 0, 0, 0, 0), (2, 2, 2, 2, 2, 2)), 0)
        self.assertEqual(reduced_policy(TWO, same), (1, (0,), ((0,) * 6,), 0))

    def test_memories_that_differ_only_by_the_middle_windows(self):
        # With look-ahead 2 and one request the windows have lengths 1, 2 and 3; memories 0 and 1 differ at 2.
        policy = (2, (0, 0, 1), ((0, 0, 1), (0, 2, 0), (0, 0, 0)), 0)
        self.assertEqual(reduced_policy(ONE, policy), (2, (0, 0, 1), ((0, 0, 1), (0, 2, 0), (0, 0, 0)), 0))

    def test_memories_that_differ_after_several_requests(self):
        for length in (2, 5, 40):
            policy = chain((0,) * (length - 1) + (1,))
            self.assertEqual(reduced_policy(ONE, policy), policy)
            self.assertEqual(reduced_policy(ONE, chain((0,) * length)), (0, (0,), ((0,),), 0))

    def test_rings(self):
        self.assertEqual(reduced_policy(ONE, ring(7)), (0, (0,), ((0,),), 0))
        mixed = (0, (0, 1) * 6, tuple(((m + 1) % 12,) for m in range(12)), 4)
        self.assertEqual(reduced_policy(ONE, mixed), (0, (0, 1), ((1,), (0,)), 0))

    def test_largest_policies(self):
        policy = chain((0,) * 999 + (1,))
        self.assertEqual(reduced_policy(ONE, policy), policy)
        self.assertEqual(reduced_policy(ONE, ring(1000)), (0, (0,), ((0,),), 0))
        four = (ONE[0], ((0, 0),) * 4, 0)
        row = tuple(range(20))
        found = reduced_policy(four, (1, (0,) * 500 + (1,) * 500, (row,) * 1000, 0))
        self.assertEqual(found, (1, (0,), ((0,) * 20,), 0))

    def test_first_memory_leads_nowhere_else(self):
        self.assertEqual(reduced_policy(A, (0, (0, 1, 0), ((2, 2), (1, 1), (2, 2)), 0)), STAY)

    def test_by_hand(self):
        rng = random.Random(14)
        smaller = 0
        for system in random_systems(15, 40, requests=(1, 2)):
            for lookahead in (0, 1, 2):
                policy = random_policy(rng, system, lookahead, rng.choice((3, 6, 10)))
                for same in (policy, split_policy(rng, policy), renumbered(rng, policy)):
                    found = reduced_policy(system, same)
                    self.assertEqual(found, reduced_by_hand(same))
                    self.assertEqual(found, reduced_policy(system, policy))
                    self.assertTrue(is_policy(system, found))
                    self.assertEqual(reduced_policy(system, found), found)
                    smaller += len(found[1]) < len(same[1])
        self.assertGreater(smaller, 100)

    def test_same_schedules(self):
        rng = random.Random(16)
        for system in random_systems(17, 15, requests=(1, 2)):
            for lookahead in (0, 1, 2):
                policy = split_policy(rng, random_policy(rng, system, lookahead, 5))
                self.assertIsNone(different_by_hand(system, policy, reduced_policy(system, policy), 6))

    def test_errors(self):
        for policy in ODD + (list(MOVE), MOVE[:3] + (1,), (1,) + MOVE[1:]):
            assert_error(self, InvalidPolicy, None, reduced_policy, A, policy)
            assert_error(self, InvalidSystem, None, reduced_policy, A[:2], policy)


class TestDifferentRun(unittest.TestCase):
    def test_example(self):
        self.assertEqual([different_run(A, MOVE, STAY), different_run(A, MOVE, MOVE)], [(1,), None])

    def test_other_memories_with_the_same_schedules(self):
        policy = (0, (1, 0, 0), ((0, 0), (2, 2), (1, 1)), 1)
        self.assertIsNone(different_run(A, policy, STAY))
        self.assertIsNone(different_run(A, STAY, policy))
        self.assertEqual(different_run(A, policy, MOVE), (1,))

    def test_by_hand(self):
        rng = random.Random(18)
        lengths = set()
        for _ in range(200):
            system = random_system(rng, 2, rng.choice((1, 2)))
            lookahead = rng.randrange(3)
            first = random_policy(rng, system, lookahead, 6)
            # Another policy: one that differs at one entry, and may differ late or never.
            at = rng.choice((first[3], rng.randrange(len(first[1]))))
            entry = rng.choice((0, rng.randrange(len(first[2][0]))))
            new = rng.choice([row[entry] for row in first[2]])
            row = first[2][at][:entry] + (new,) + first[2][at][entry + 1:]
            second = first[:2] + (first[2][:at] + (row,) + first[2][at + 1:],) + first[3:]
            for other in (second, renumbered(rng, second), split_policy(rng, second)):
                found = different_run(system, first, other)
                expected = different_by_hand(system, first, other, 7)
                if expected is None:
                    self.assertTrue(found is None or len(found) > 7, (system, first, other))
                else:
                    self.assertEqual(found, expected, (system, first, other))
                    lengths.add((lookahead, len(found)))
                self.assertEqual(different_run(system, other, first), found)
        self.assertLessEqual({(0, 1), (0, 2), (1, 1), (1, 2), (1, 3), (2, 1), (2, 2), (2, 3)}, lengths)

    def test_reduced_policies_never_differ(self):
        rng = random.Random(19)
        for system in random_systems(20, 30, requests=(1, 2)):
            for lookahead in (0, 1, 2):
                policy = random_policy(rng, system, lookahead, 8)
                self.assertIsNone(different_run(system, policy, reduced_policy(system, policy)))

    def test_windows_that_are_not_full(self):
        # Only the window (1,), which is possible for the last request alone, leads to another state.
        first = (1, (0, 1), ((0,) * 6,) * 2, 0)
        second = (1, (0, 1), ((0, 1, 0, 0, 0, 0),) * 2, 0)
        self.assertEqual(different_run(TWO, first, second), (1,))
        # With look-ahead 2, only the last two requests (1, 0).
        first = (2, (0, 1), ((0,) * 14,) * 2, 0)
        second = (2, (0, 1), ((0,) * 4 + (1,) + (0,) * 9,) * 2, 0)
        self.assertEqual(different_run(TWO, first, second), (1, 0))
        # With look-ahead 2, only a single last request: it may be the only one.
        second = (2, (0, 1), ((0, 1) + (0,) * 12,) * 2, 0)
        self.assertEqual(different_run(TWO, first, second), (1,))

    def test_single_request_with_lookahead_two_is_no_difference_later(self):
        # The window (1,) alone leads to memory 2 from memory 1 only, to which full windows lead.
        full = (0, 0) + (0,) * 4 + (1,) * 8
        states = (0, 0, 1)
        first = (2, states, (full,) * 3, 0)
        second = (2, states, (full, (0, 2) + full[2:], full), 0)
        self.assertEqual(different_run(TWO, first, second), None)
        # From memory 1 windows of two requests lead to 1 as well, so that the last request comes there.
        stay = (0, 0) + (1,) * 12
        first = (2, states, (full, stay, full), 0)
        second = (2, states, (full, (0, 2) + stay[2:], full), 0)
        self.assertEqual(different_run(TWO, first, second), (0, 0, 1))

    def test_full_windows_alone(self):
        # Only the full window (1, 0) leads to another state.
        first = (1, (0, 1), ((0,) * 6,) * 2, 0)
        second = (1, (0, 1), ((0, 0, 0, 0, 1, 0),) * 2, 0)
        self.assertEqual(different_run(TWO, first, second), (1, 0))
        first = (2, (0, 1), ((0,) * 14,) * 2, 0)
        second = (2, (0, 1), ((0,) * 11 + (1, 0, 0),) * 2, 0)
        self.assertEqual(different_run(TWO, first, second), (1, 0, 1))

    def test_after_many_requests(self):
        for length in (2, 10, 400, 999, 1000):
            first = chain((0,) * (length - 1) + (1,))
            self.assertEqual(different_run(ONE, first, ring(1)), (0,) * (length - 1))
            self.assertEqual(different_run(ONE, ring(1), first), (0,) * (length - 1))
            self.assertIsNone(different_run(ONE, chain((0,) * length), ring(1)))

    def test_after_many_requests_with_lookahead(self):
        for lookahead in (1, 2):
            count = window_count(1, lookahead)
            states = (0,) * 300 + (1,)
            moves = tuple((min(m + 1, 300),) * count for m in range(301))
            still = (lookahead, (0,), ((0,) * count,), 0)
            self.assertEqual(different_run(ONE, (lookahead, states, moves, 0), still), (0,) * 300)

    def test_smallest_of_the_shortest(self):
        # Each second request leads to state 1; the first tuple of two is the smallest.
        first = (0, (0, 0, 1), ((1, 1), (2, 2), (2, 2)), 0)
        self.assertEqual(different_run(TWO, first, STAY), (0, 0))
        # Only two equal requests in a row lead to it.
        first = (0, (0, 0, 0, 1), ((1, 2), (3, 2), (1, 3), (3, 3)), 0)
        self.assertEqual(different_run(TWO, first, STAY), (0, 0))
        # Only request 1 before request 0.
        first = (0, (0, 0, 1), ((0, 1), (2, 1), (2, 2)), 0)
        self.assertEqual(different_run(TWO, first, STAY), (1, 0))

    def test_number_of_triples(self):
        self.assertIsNone(different_run(ONE, ring(8), ring(125)))
        self.assertIsNone(different_run(ONE, ring(1000), ring(1)))
        self.assertIsNone(different_run(ONE, ring(1000), ring(1000)))
        for one, other in ((7, 143), (143, 7), (11, 91), (1000, 3), (32, 33)):
            assert_error(self, TooLarge, ("limit", 1000), different_run, ONE, ring(one), ring(other))

    def test_number_of_triples_with_a_difference(self):
        def changed(length):
            _, states, moves, first = ring(length)
            return (0, states[:1] + (1,) + states[2:], moves, first)

        self.assertEqual(different_run(ONE, changed(8), ring(125)), (0,))
        self.assertEqual(different_run(ONE, ring(8), changed(125)), (0,))
        assert_error(self, TooLarge, ("limit", 1000), different_run, ONE, changed(7), ring(143))
        assert_error(self, TooLarge, ("limit", 1000), different_run, ONE, ring(7), changed(143))

    def test_number_of_triples_with_lookahead(self):
        # Each pair of memories occurs with all tuples of known requests: 2 or 4 triples for each pair.
        for lookahead, fits, more in ((1, 500, 501), (2, 250, 251)):
            still = turning(1, lookahead, 2)
            self.assertIsNone(different_run(TWO, turning(fits, lookahead, 2), still))
            assert_error(self, TooLarge, ("limit", 1000), different_run, TWO, turning(more, lookahead, 2), still)
        # 64 triples for each pair: 15 pairs are 960, 16 pairs are 1024.
        self.assertIsNone(different_run(EIGHT, turning(3, 2, 8), turning(5, 2, 8)))
        assert_error(self, TooLarge, ("limit", 1000), different_run, EIGHT, turning(16, 2, 8), turning(2, 2, 8))

    def test_triples_with_too_few_requests_left_do_not_count(self):
        # Full windows lead to 900 pairs of memories, a last window from each of them to one more.
        first = (1, (0,) * 900, tuple((m, (m + 1) % 900) for m in range(900)), 0)
        second = (1, (0, 0), ((1, 0), (1, 0)), 0)
        self.assertIsNone(different_run(ONE, first, second))
        self.assertIsNone(different_run(ONE, second, first))

    def test_short_difference_does_not_hide_too_many_triples(self):
        # With look-ahead 2 the single request differs, and there are too many triples all the same.
        def turning(length, short):
            return (2, (0,) * length + (1,), tuple((short,) + ((m + 1) % length,) * 2 for m in range(length + 1)), 0)

        self.assertEqual(different_run(ONE, turning(8, 8), turning(125, 0)), (0,))
        assert_error(self, TooLarge, ("limit", 1000), different_run, ONE, turning(7, 7), turning(143, 0))

    def test_errors(self):
        for policy in ODD + (list(MOVE), MOVE[:3] + (1,), (1,) + MOVE[1:]):
            assert_error(self, InvalidPolicy, None, different_run, A, policy, MOVE)
            assert_error(self, InvalidPolicy, None, different_run, A, MOVE, policy)
            assert_error(self, InvalidPolicy, None, different_run, A, policy, policy)
            assert_error(self, InvalidSystem, None, different_run, A[:2], MOVE, policy)

    def test_other_lookahead(self):
        policies = [(lookahead, (0,), ((0,) * window_count(2, lookahead),), 0) for lookahead in range(3)]
        for first in policies:
            for second in policies:
                if first[0] == second[0]:
                    self.assertIsNone(different_run(A, first, second))
                else:
                    assert_error(self, InvalidPolicy, None, different_run, A, first, second)

    def test_other_lookahead_is_checked_before_the_triples(self):
        many = (1, (0,) * 1000, tuple(((m + 1) % 1000,) * 6 for m in range(1000)), 0)
        still = (1, (0,), ((0,) * 6,), 0)
        assert_error(self, TooLarge, ("limit", 1000), different_run, TWO, many, still)
        assert_error(self, InvalidPolicy, None, different_run, TWO, many, STAY)


if __name__ == "__main__":
    unittest.main()
