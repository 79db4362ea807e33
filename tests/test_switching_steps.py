"""switching_from_steps of stage 1."""

import itertools
import random
import unittest

from hindcost.errors import InvalidNumber, InvalidSteps
from hindcost.systems.systems import is_system, switching_from_steps
from tests.helpers import ODD, assert_error, replacements

RING = ((0, 1, 2), (1, 2, 3), (2, 0, 4))


def by_hand(size, steps):
    """The least sums over all ways that come to no state twice, None where there is no way."""
    table = []
    for s in range(size):
        row = []
        for t in range(size):
            sums = [0] if s == t else []
            others = [u for u in range(size) if u not in (s, t)]
            for count in range(len(others) + 1):
                for between in itertools.permutations(others, count):
                    way = (s,) + between + (t,)
                    costs = [
                        min((c for a, b, c in steps if (a, b) == pair), default=None) for pair in zip(way, way[1:])
                    ]
                    if s != t and None not in costs:
                        sums.append(sum(costs))
            row.append(min(sums, default=None))
        table.append(tuple(row))
    return tuple(table)


class TestSwitchingFromSteps(unittest.TestCase):
    def test_example(self):
        self.assertEqual(switching_from_steps(3, RING), ((0, 2, 5), (7, 0, 3), (4, 6, 0)))

    def test_two_states(self):
        self.assertEqual(switching_from_steps(2, ((0, 1, 1), (1, 0, 1000))), ((0, 1), (1000, 0)))

    def test_several_steps_between_the_same_states(self):
        for costs in itertools.permutations((3, 5, 9)):
            steps = tuple((0, 1, cost) for cost in costs) + ((1, 0, 7), (1, 0, 7))
            self.assertEqual(switching_from_steps(2, steps), ((0, 3), (7, 0)))

    def test_way_is_cheaper_than_the_direct_step(self):
        steps = ((0, 2, 9), (0, 1, 2), (1, 2, 3), (2, 0, 1), (1, 0, 8))
        self.assertEqual(switching_from_steps(3, steps), ((0, 2, 5), (4, 0, 3), (1, 3, 0)))

    def test_long_way_through_all_states(self):
        for order in ((0, 1, 2, 3, 4, 5, 6, 7, 8, 9), (9, 3, 7, 0, 5, 1, 8, 2, 6, 4)):
            steps = tuple(zip(order, order[1:] + order[:1], (7,) * 10))
            table = switching_from_steps(10, steps)
            for s in range(10):
                for t in range(10):
                    self.assertEqual(table[order[s]][order[t]], 7 * ((t - s) % 10))

    def test_against_all_ways(self):
        rng = random.Random(3)
        valid = 0
        for _ in range(300):
            size = rng.randint(2, 5)
            greatest = rng.choice((5, 1000))
            steps = tuple(
                tuple(rng.sample(range(size), 2)) + (rng.randint(1, greatest),)
                for _ in range(rng.randint(size, 3 * size))
            )
            table = by_hand(size, steps)
            if all(entry is not None and entry <= 1000 for row in table for entry in row):
                valid += 1
                self.assertEqual(switching_from_steps(size, steps), table)
                self.assertTrue(is_system((table, ((0,) * size,), 0)))
            else:
                assert_error(self, InvalidSteps, None, switching_from_steps, size, steps)
        self.assertGreater(valid, 100)
        self.assertLess(valid, 280)

    def test_numbers_of_states(self):
        for size in (0, 1, 11, 12, -3) + ODD:
            assert_error(self, InvalidNumber, ("value", size), switching_from_steps, size, RING)
        for size in range(2, 11):
            steps = tuple((s, (s + 1) % size, 1) for s in range(size))
            self.assertEqual(len(switching_from_steps(size, steps)), size)

    def test_least_sums_at_the_limit(self):
        for cost in (1, 499, 500):
            steps = ((0, 1, 500), (1, 2, cost), (2, 0, 1))
            self.assertEqual(switching_from_steps(3, steps)[0], (0, 500, 500 + cost))
        for cost in (501, 502, 1000):
            steps = ((0, 1, 500), (1, 2, cost), (2, 0, 1))
            assert_error(self, InvalidSteps, None, switching_from_steps, 3, steps)

    def test_great_sum_with_a_cheaper_way(self):
        steps = ((0, 1, 900), (1, 2, 900), (2, 0, 100), (0, 2, 1000), (1, 0, 1000))
        self.assertEqual(switching_from_steps(3, steps), ((0, 900, 1000), (1000, 0, 900), (100, 1000, 0)))

    def test_costs_of_steps(self):
        for cost in (1, 2, 1000):
            self.assertEqual(switching_from_steps(2, ((0, 1, cost), (1, 0, 1))), ((0, cost), (1, 0)))
        for cost in (0, -1, 1001, 2000) + ODD:
            assert_error(self, InvalidSteps, None, switching_from_steps, 2, ((0, 1, cost), (1, 0, 1)))
            # A step that is not needed must be a step all the same.
            assert_error(self, InvalidSteps, None, switching_from_steps, 2, ((0, 1, 1), (1, 0, 1), (0, 1, cost)))

    def test_states_of_steps(self):
        for state in (3, 4, -2) + ODD:
            assert_error(self, InvalidSteps, None, switching_from_steps, 3, RING + ((0, state, 1),))
            assert_error(self, InvalidSteps, None, switching_from_steps, 3, RING + ((state, 0, 1),))
        for state in (0, 1, 2):
            assert_error(self, InvalidSteps, None, switching_from_steps, 3, RING + ((state, state, 1),))

    def test_states_that_cannot_be_reached(self):
        ways = ((), ((0, 1, 1),), ((1, 0, 1),))
        for steps in ways:
            assert_error(self, InvalidSteps, None, switching_from_steps, 2, steps)
        assert_error(self, InvalidSteps, None, switching_from_steps, 3, ((0, 1, 1), (1, 0, 1)))
        assert_error(self, InvalidSteps, None, switching_from_steps, 3, ((0, 1, 1), (1, 0, 1), (1, 2, 1)))
        assert_error(self, InvalidSteps, None, switching_from_steps, 3, ((0, 1, 1), (1, 0, 1), (2, 0, 1)))
        assert_error(self, InvalidSteps, None, switching_from_steps, 4, RING)

    def test_other_kinds(self):
        for steps in ODD + (list(RING), (RING,), (RING[0], RING[1], list(RING[2])), RING[0], {RING: RING}):
            assert_error(self, InvalidSteps, None, switching_from_steps, 3, steps)
        for steps in replacements(RING):
            assert_error(self, InvalidSteps, None, switching_from_steps, 3, steps)
        for step in ((0, 1), (0, 1, 1, 1), (0,), ()):
            assert_error(self, InvalidSteps, None, switching_from_steps, 3, RING + (step,))

    def test_number_is_checked_before_steps(self):
        for size in (1, 11, None, True):
            for steps in ((), None, [0], ((0, 0, 0),)):
                assert_error(self, InvalidNumber, ("value", size), switching_from_steps, size, steps)


if __name__ == "__main__":
    unittest.main()
