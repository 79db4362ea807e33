"""[2.1], [2.2]: schedules and the optimum."""

import unittest

from hindcost.errors import InvalidSchedule, InvalidSequence, InvalidSystem
from hindcost.schedules.schedules import (
    best_schedule, best_schedule_count, is_schedule, optimum, prefix_optima, schedule_cost,
)
from tests.helpers import A, ODD, T, UNEVEN, all_schedules, assert_error, cost_by_hand, product_of, random_systems


def small_cases():
    """Pairs of a small system and a sequence: all sequences of at most three requests, and some longer ones."""
    for system in [A, T, UNEVEN] + random_systems(4, 25):
        requests = len(system[1])
        for length in range(4):
            for sequence in product_of(requests, length):
                yield system, sequence
        yield system, tuple(k * k % requests for k in range(6))


class TestIsSchedule(unittest.TestCase):
    def test_example(self):
        self.assertEqual([is_schedule(A, (1, 0), (1, 1)), is_schedule(A, (1, 0), (1,))], [True, False])

    def test_length(self):
        for length in range(5):
            self.assertIs(is_schedule(A, (1, 0, 1), (0,) * length), length == 3, length)

    def test_empty_sequence(self):
        self.assertIs(is_schedule(A, (), ()), True)
        self.assertIs(is_schedule(A, (), (0,)), False)
        for value in ODD:
            self.assertIs(is_schedule(A, (), value), value == () and isinstance(value, tuple), value)

    def test_states_must_be_allowed(self):
        for system in [UNEVEN] + random_systems(5, 20):
            sequence = tuple(range(len(system[1])))
            allowed = all_schedules(system, sequence)
            for value in product_of(len(system[0]), len(sequence)):
                self.assertIs(is_schedule(system, sequence, value), value in allowed, (system, value))

    def test_states_that_are_none(self):
        for wrong in ODD + (3,):
            self.assertIs(is_schedule(UNEVEN, (2, 2, 2), (0, wrong, 0)), False, wrong)
            self.assertIs(is_schedule(UNEVEN, (2,), wrong), False, wrong)
        self.assertIs(is_schedule(UNEVEN, (2, 2), [0, 0]), False)
        self.assertIs(is_schedule(UNEVEN, (2, 2), ((0, 0),)), False)

    def test_longest_sequence(self):
        self.assertIs(is_schedule(A, (1,) * 400, (0, 1) * 200), True)
        assert_error(self, InvalidSequence, None, is_schedule, A, (1,) * 401, (0,) * 401)


class TestScheduleCost(unittest.TestCase):
    def test_example(self):
        self.assertEqual([schedule_cost(A, (1, 0, 1), (0, 0, 0)), schedule_cost(A, (1, 0, 1), (1, 1, 1))], [4, 3])

    def test_begins_at_the_start(self):
        # From 1 to 2 (2) and request 0 there (0), to 0 (4) and request 1 there (1), staying at 0, request 2 there (2).
        self.assertEqual(schedule_cost(UNEVEN, (0, 1, 2), (2, 0, 0)), 9)
        self.assertEqual(schedule_cost(UNEVEN, (), ()), 0)

    def test_all_small_schedules(self):
        for system, sequence in small_cases():
            for schedule in all_schedules(system, sequence):
                found = schedule_cost(system, sequence, schedule)
                self.assertEqual(found, cost_by_hand(system, sequence, schedule))

    def test_greatest_cost(self):
        system = (((0, 1000), (1000, 0)), ((1000, 1000),), 0)
        self.assertEqual(schedule_cost(system, (0,) * 400, (1, 0) * 200), 800000)

    def test_invalid_schedules(self):
        sequence = (2, 0, 1)
        for value in ODD + ((0, 0, 0), (0, 1), (0, 1, 0, 0), [0, 1, 0], (0, 1, 3), (0, 1, True), (0, 1, -1)):
            assert_error(self, InvalidSchedule, None, schedule_cost, UNEVEN, sequence, value)
        self.assertEqual(schedule_cost(UNEVEN, sequence, (0, 1, 0)), 12)


class TestOptimum(unittest.TestCase):
    def test_example(self):
        found = (optimum(A, (1, 0, 1)), best_schedule(A, (1, 0, 1)), best_schedule_count(A, (1, 0, 1)))
        self.assertEqual(found, (3, (0, 0, 1), 3))
        self.assertEqual([schedule_cost(A, (1, 0, 1), each) for each in ((0, 0, 1), (1, 0, 1), (1, 1, 1))], [3, 3, 3])
        self.assertEqual(prefix_optima(A, (1, 0, 1)), (0, 1, 2, 3))

    def test_empty_sequence(self):
        for system in [A, T, UNEVEN] + random_systems(6, 5):
            found = (optimum(system, ()), best_schedule(system, ()), best_schedule_count(system, ()))
            self.assertEqual(found, (0, (), 1))
            self.assertEqual(prefix_optima(system, ()), (0,))

    def test_against_all_schedules(self):
        several = 0
        for system, sequence in small_cases():
            costs = {schedule: cost_by_hand(system, sequence, schedule) for schedule in all_schedules(system, sequence)}
            least = min(costs.values())
            best = sorted(schedule for schedule in costs if costs[schedule] == least)
            several += len(best) > 1
            found = (
                optimum(system, sequence), best_schedule(system, sequence), best_schedule_count(system, sequence)
            )
            self.assertEqual(found, (least, best[0], len(best)), (system, sequence))
        self.assertGreater(several, 50)

    def test_prefixes(self):
        for system, sequence in small_cases():
            found = prefix_optima(system, sequence)
            self.assertIsInstance(found, tuple)
            self.assertEqual(list(found), [optimum(system, sequence[:k]) for k in range(len(sequence) + 1)])

    def test_longest_sequences(self):
        sequence = (1, 0) * 200
        self.assertEqual(optimum(T, sequence), 200)
        self.assertEqual(best_schedule(T, sequence), (0,) * 400)
        self.assertEqual(prefix_optima(T, sequence), tuple((k + 1) // 2 for k in range(401)))
        for function in (optimum, best_schedule, best_schedule_count, prefix_optima):
            assert_error(self, InvalidSequence, None, function, T, sequence + (0,))

    def test_number_of_schedules_has_no_bound(self):
        # Each pair of requests may be served with or without a switch to state 1 and back, for 2 in either case.
        system = (((0, 1), (1, 0)), ((2, 0), (0, None)), 0)
        self.assertEqual(best_schedule_count(system, (0, 1) * 200), 2**200)
        self.assertEqual(best_schedule(system, (0, 1) * 200), (0,) * 400)
        same = (((0, 1), (1, 0)), ((0, 0),), 1)
        self.assertEqual((best_schedule_count(same, (0,) * 400), best_schedule(same, (0,) * 400)), (1, (1,) * 400))

    def test_dear_states_in_between_are_avoided(self):
        system = (((0, 1, 2), (1, 0, 1), (2, 1, 0)), ((None, 1000, 0), (0, 1000, None)), 0)
        self.assertEqual((optimum(system, (0, 1)), best_schedule(system, (0, 1))), (4, (2, 0)))

    def test_greatest_optimum(self):
        system = (((0, 1000), (1000, 0)), ((1000, None), (None, 1000)), 1)
        self.assertEqual(optimum(system, (0, 1) * 200), 800000)

    def test_largest_system(self):
        table = tuple(tuple(abs(s - t) * 100 for t in range(10)) for s in range(10))
        requests = tuple(tuple(0 if s == 9 - r else None for s in range(10)) for r in range(8))
        system = (table, requests, 0)
        self.assertEqual(best_schedule(system, (0, 7, 3)), (9, 2, 6))
        self.assertEqual(optimum(system, (0, 7, 3)), 900 + 700 + 400)

    def test_errors(self):
        for function in (optimum, best_schedule, best_schedule_count, prefix_optima):
            for sequence in [value for value in ODD if value != () or isinstance(value, list)] + [(2,), [0], (0, 2)]:
                assert_error(self, InvalidSequence, None, function, A, sequence)
                assert_error(self, InvalidSystem, None, function, A[:2], sequence)


if __name__ == "__main__":
    unittest.main()
