"""Stage 11: lists."""

import itertools
import random
import unittest

from hindcost.errors import InvalidInstance, InvalidNumber
from hindcost.games.solver import value_of
from hindcost.instances.lists import list_policy, list_states, list_system
from hindcost.policies.policies import is_policy
from hindcost.policies.runs import run_cost, run_schedule
from hindcost.ratios.ratios import ratio_of
from hindcost.systems.systems import is_system
from tests.helpers import ODD, assert_error
from tests.simulations import List, policy_by_simulation, schedule_by_simulation

WORDS = ("front", "transpose", "stay", "twice")


def exchanges_by_hand(old, new):
    """The least number of exchanges of neighbouring items, by trying all of them."""
    reached = {old}
    count = 0
    while new not in reached:
        reached |= {
            order[:at] + (order[at + 1], order[at]) + order[at + 2:] for order in reached for at in range(len(old) - 1)
        }
        count += 1
    return count


class TestSystems(unittest.TestCase):
    def test_examples(self):
        self.assertEqual(list_states(3), ((0, 1, 2), (0, 2, 1), (1, 0, 2), (1, 2, 0), (2, 0, 1), (2, 1, 0)))
        self.assertEqual(list_system(2), (((0, 1), (1, 0)), ((1, 2), (2, 1)), 0))

    def test_states(self):
        for items in (2, 3):
            self.assertEqual(list_states(items), tuple(itertools.permutations(range(items))))

    def test_systems(self):
        for items in (2, 3):
            states = list_states(items)
            for swap in (1, 2, 7, 99, 100):
                system = list_system(items, swap=swap)
                self.assertIs(is_system(system), True)
                switching, requests, start = system
                self.assertEqual(switching, tuple(
                    tuple(swap * exchanges_by_hand(old, new) for new in states) for old in states
                ))
                for item, costs in enumerate(requests):
                    self.assertEqual(costs, tuple(order.index(item) + 1 for order in states))
                self.assertEqual((len(requests), start), (items, 0))
            self.assertEqual(list_system(items), list_system(items, swap=1))

    def test_three_items_by_hand(self):
        switching, requests, _ = list_system(3, swap=100)
        self.assertEqual(switching[0], (0, 100, 100, 200, 200, 300))
        self.assertEqual(switching[3], (200, 300, 100, 0, 200, 100))
        self.assertEqual(requests, ((1, 1, 2, 3, 2, 3), (2, 3, 1, 1, 3, 2), (3, 2, 3, 2, 1, 1)))


class TestPolicies(unittest.TestCase):
    def test_example(self):
        self.assertEqual(list_policy(2, "front"), (0, (0, 1), ((0, 1), (0, 1)), 0))
        self.assertEqual(ratio_of(list_system(2), list_policy(2, "front")), (4, 3))
        self.assertEqual(value_of(list_system(2)), (4, 3))

    def test_policies_by_hand(self):
        self.assertEqual(list_policy(2, "transpose"), list_policy(2, "front"))
        self.assertEqual(list_policy(2, "stay"), (0, (0,), ((0, 0),), 0))
        self.assertEqual(list_policy(3, "stay"), (0, (0,), ((0, 0, 0),), 0))
        # The configurations: the order 01 with no marks, with 0, with 1 and with both; then likewise the order 10.
        self.assertEqual(list_policy(2, "twice"), (
            0, (0, 0, 0, 0, 1, 1, 1, 1), ((1, 2), (0, 3), (3, 4), (2, 5), (5, 6), (0, 7), (7, 4), (2, 5)), 0,
        ))

    def test_memories_in_their_order(self):
        for items in (2, 3):
            for word in WORDS:
                policy = list_policy(items, word)
                self.assertIs(is_policy(list_system(items), policy), True)
                self.assertEqual(
                    policy, policy_by_simulation(lambda: List(word, items), 0, items, list_states(items)), word
                )

    def test_schedules(self):
        rng = random.Random(111)
        for items, longest in ((2, 8), (3, 6)):
            short = [row for length in range(longest) for row in itertools.product(range(items), repeat=length)]
            long = [tuple(rng.randrange(items) for _ in range(400)) for _ in range(5)]
            for word in WORDS:
                for sequence in short + long:
                    found = run_schedule(list_system(items), list_policy(items, word), sequence)
                    expected = schedule_by_simulation(List(word, items), 0, sequence)
                    self.assertEqual([list_states(items)[s] for s in found], expected)

    def test_the_list_is_rearranged_before_the_request_is_served(self):
        # Item 2 moves to the front by two exchanges and costs 1 there; then it stays there.
        for swap in (1, 30, 100):
            system = list_system(3, swap=swap)
            self.assertEqual(run_cost(system, list_policy(3, "front"), (2,)), 2 * swap + 1)
            self.assertEqual(run_cost(system, list_policy(3, "front"), (2, 2, 0)), 2 * swap + 2 + swap + 1)
            self.assertEqual(run_cost(system, list_policy(3, "transpose"), (2, 2)), swap + 2 + swap + 1)
            self.assertEqual(run_cost(system, list_policy(3, "stay"), (2, 2)), 6)
            self.assertEqual(run_cost(system, list_policy(3, "twice"), (2, 2)), 3 + 2 * swap + 1)
            self.assertEqual(run_cost(system, list_policy(3, "twice"), (2, 2, 1, 1)), 2 * (3 + 2 * swap + 1))


class TestErrors(unittest.TestCase):
    def test_items(self):
        for odd in ODD + (0, 1, 4, 5, -2):
            kept = ("value", odd)
            assert_error(self, InvalidNumber, kept, list_states, odd)
            for swap in (1, 0, 101, None):
                assert_error(self, InvalidNumber, kept, list_system, odd, swap=swap)
            for word in ("front", "none", None, 0):
                assert_error(self, InvalidNumber, kept, list_policy, odd, word)

    def test_swap(self):
        for odd in ODD + (0, 101, 1000):
            for items in (2, 3):
                assert_error(self, InvalidNumber, ("value", odd), list_system, items, swap=odd)

    def test_words(self):
        for odd in ODD + ("Front", "front ", " front", "lru", ("front",), ["front"], 0, {"front": 1}):
            for items in (2, 3):
                assert_error(self, InvalidInstance, None, list_policy, items, odd)


if __name__ == "__main__":
    unittest.main()
