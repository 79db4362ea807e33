"""Stage 12: devices."""

import itertools
import random
import unittest

from hindcost.errors import InvalidInstance, InvalidNumber
from hindcost.instances.devices import device_policy, device_system
from hindcost.policies.policies import is_policy
from hindcost.policies.runs import run_cost, run_memories, run_schedule
from hindcost.ratios.ratios import ratio_of
from hindcost.systems.systems import is_system
from tests.helpers import ODD, assert_error
from tests.simulations import Device, policy_by_simulation, schedule_by_simulation

WORK, IDLE = 0, 1
DEVICES = (
    ((3, 1), (4,)), ((100, 0), (100,)), ((1, 0), (1,)), ((9, 4, 1), (2, 7)), ((100, 50, 0), (100, 100)),
    ((9, 4, 1, 0), (2, 7, 1)), ((100, 99, 98, 97), (100, 100, 100)),
)
THRESHOLDS = ((1,), (2,), (50,), (49,), (1, 2), (1, 50), (49, 50), (2, 5), (1, 2, 3), (48, 49, 50), (1, 25, 50))


class TestSystems(unittest.TestCase):
    def test_example(self):
        self.assertEqual(device_system((3, 1), (4,)), (((0, 1), (4, 0)), ((0, None), (3, 1)), 0))

    def test_systems(self):
        for powers, wakes in DEVICES:
            for drop in (1, 2, 99, 100):
                system = device_system(powers, wakes, drop=drop)
                self.assertIs(is_system(system), True)
                switching, requests, start = system
                levels = range(len(powers))
                for s, t in itertools.product(levels, repeat=2):
                    # One level after the other.
                    down = sum(drop for level in levels if s <= level < t)
                    up = sum(wakes[level] for level in levels if t <= level < s)
                    self.assertEqual(switching[s][t], down + up)
                self.assertEqual(requests, ((0,) + (None,) * (len(powers) - 1), powers))
                self.assertEqual(start, 0)
            self.assertEqual(device_system(powers, wakes), device_system(powers, wakes, drop=1))

    def test_by_hand(self):
        self.assertEqual(device_system((9, 4, 1), (2, 7), drop=5), (
            ((0, 5, 10), (2, 0, 5), (9, 7, 0)), ((0, None, None), (9, 4, 1)), 0,
        ))


class TestPolicies(unittest.TestCase):
    def test_example(self):
        self.assertEqual(device_policy((2,)), (0, (0, 0, 0, 1), ((0, 1), (0, 2), (0, 3), (0, 3)), 0))

    def test_by_hand(self):
        self.assertEqual(device_policy((1, 3)), (
            0, (0, 0, 1, 1, 2), ((0, 1), (0, 2), (0, 3), (0, 4), (0, 4)), 0,
        ))

    def test_policies(self):
        for thresholds in THRESHOLDS:
            levels = len(thresholds) + 1
            system = device_system(tuple(range(levels, 0, -1)), (1,) * (levels - 1))
            policy = device_policy(thresholds)
            self.assertIs(is_policy(system, policy), True)
            self.assertEqual(len(policy[1]), thresholds[-1] + 2)
            # The memories are numbered as a breadth-first search comes to them, too.
            self.assertEqual(policy, policy_by_simulation(lambda: Device(thresholds), 0, 2, range(levels)))

    def test_schedules(self):
        rng = random.Random(113)
        for thresholds in THRESHOLDS:
            levels = len(thresholds) + 1
            system = device_system(tuple(range(levels, 0, -1)), (1,) * (levels - 1))
            policy = device_policy(thresholds)
            rows = [(IDLE,) * 120, (WORK,) * 9, (), (WORK, *(IDLE,) * (thresholds[-1] + 3), WORK, IDLE)]
            for idle in range(55):
                rows.append((IDLE,) * idle + (WORK,) + (IDLE,) * idle)
            for _ in range(5):
                rows.append(tuple(int(rng.random() < 0.95) for _ in range(400)))
            for sequence in rows:
                found = list(run_schedule(system, policy, sequence))
                self.assertEqual(found, schedule_by_simulation(Device(thresholds), 0, sequence))

    def test_levels_at_the_thresholds(self):
        system = device_system((9, 4, 1), (2, 7))
        found = run_schedule(system, device_policy((1, 50)), (IDLE,) * 53 + (WORK, IDLE, IDLE))
        self.assertEqual(found, (0,) + (1,) * 49 + (2,) * 3 + (0, 0, 1))

    def test_memories_mean_idle_requests(self):
        system = device_system((3, 1), (4,))
        found = run_memories(system, device_policy((3,)), (IDLE,) * 7 + (WORK, WORK, IDLE))
        self.assertEqual(found, (1, 2, 3, 4, 4, 4, 4, 0, 0, 1))

    def test_costs(self):
        system = device_system((3, 1), (4,), drop=6)
        self.assertEqual(run_cost(system, device_policy((2,)), (IDLE, IDLE, IDLE, IDLE, WORK)), 3 + 3 + 6 + 1 + 1 + 4)

    def test_waiting_as_long_as_waking_costs(self):
        # Waiting until the power that was lost pays for one drop and one wake is twice as dear as the optimum.
        self.assertEqual(ratio_of(device_system((1, 0), (9,)), device_policy((10,))), (2, 1))


class TestErrors(unittest.TestCase):
    def test_powers(self):
        wrong = [
            (3,), (5, 4, 3, 2, 1), (1, 3), (3, 3), (3, 1, 1), (3, 1, 2), (101, 1), (3, -1), [3, 1], (3, None),
            (3, False), (True, 0), ("3", "1"), ((3,), (1,)), (10**49, 1), (3, 1, None),
        ]
        for powers in wrong + list(ODD):
            for wakes in ((4,), (0,), None, (4, 4)):
                for drop in (1, 0):
                    assert_error(self, InvalidInstance, None, device_system, powers, wakes, drop=drop)

    def test_wakes(self):
        for powers in ((3, 1), (100, 50, 0), (4, 3, 2, 1)):
            for count in range(6):
                if count != len(powers) - 1:
                    assert_error(self, InvalidInstance, None, device_system, powers, (1,) * count)
            for at in range(len(powers) - 1):
                for odd in (0, 101, -1, 10**49, None, True, "1", (1,), [1]):
                    wakes = (1,) * at + (odd,) + (1,) * (len(powers) - 2 - at)
                    for drop in (1, 0):
                        assert_error(self, InvalidInstance, None, device_system, powers, wakes, drop=drop)
            for odd in ODD + ([1] * (len(powers) - 1), 1, "1"):
                assert_error(self, InvalidInstance, None, device_system, powers, odd)

    def test_drop(self):
        for odd in ODD + (0, 101, 1000):
            assert_error(self, InvalidNumber, ("value", odd), device_system, (3, 1), (4,), drop=odd)

    def test_thresholds(self):
        wrong = [
            (0,), (51,), (1, 1), (2, 1), (1, 3, 2), (1, 2, 2), (1, 2, 3, 4), (0, 1), (1, 51), (None,), (1, True),
            ("1",), [1], [1, 2], 1, ((1,),), (1, None), (10**49,),
        ]
        for thresholds in wrong + list(ODD):
            assert_error(self, InvalidInstance, None, device_policy, thresholds)


if __name__ == "__main__":
    unittest.main()
