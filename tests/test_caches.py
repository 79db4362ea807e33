"""Stage 10: caches."""

import itertools
import random
import unittest

from hindcost.errors import InvalidInstance, InvalidNumber, TooLarge
from hindcost.games.solver import value_of
from hindcost.instances import caches
from hindcost.instances.caches import cache_policy, cache_states, cache_system
from hindcost.policies.configurations import policy_of_configurations
from hindcost.policies.policies import is_policy
from hindcost.policies.reduced import reduced_policy
from hindcost.policies.runs import run_memories, run_schedule
from hindcost.ratios.positions import track_of_positions
from hindcost.ratios.ratios import ratio_of
from hindcost.systems.systems import is_system
from hindcost.tracks.loops import greatest_quotient
from hindcost.tracks.tracks import graph_of_track
from tests.helpers import ODD, assert_error
from tests.simulations import Cache, ascending_choices, policy_by_simulation, schedule_by_simulation

SIZES = [(pages, capacity) for pages in range(2, 6) for capacity in range(1, pages)]
PLAIN = ("lru", "mru", "fifo", "lifo", "marking")
WAYS = [(word, 0) for word in PLAIN] + [("farthest", lookahead) for lookahead in (0, 1, 2)]


def ratio_without_limit(pages, capacity, word):
    """The ratio of the policy, however many positions there are."""
    system = cache_system(pages, capacity)
    policy = cache_policy(pages, capacity, word)
    return greatest_quotient(graph_of_track(track_of_positions(system, system, policy, system[0][0]), 10**6).rows)[0]


class TestSystems(unittest.TestCase):
    def test_examples(self):
        self.assertEqual(cache_states(3, 2), ((0, 1), (0, 2), (1, 2)))
        self.assertEqual(cache_system(3, 2), (
            ((0, 1, 1), (1, 0, 1), (1, 1, 0)), ((0, 0, None), (0, None, 0), (None, 0, 0)), 0,
        ))
        self.assertEqual(cache_system(2, 1, weights=(1, 5))[0], ((0, 5), (1, 0)))
        self.assertEqual(caches.MAX_PAGES, 5)

    def test_states(self):
        for pages, capacity in SIZES:
            self.assertEqual(cache_states(pages, capacity), ascending_choices(pages, capacity))

    def test_systems(self):
        rng = random.Random(101)
        for pages, capacity in SIZES:
            states = cache_states(pages, capacity)
            some = [tuple(rng.randint(1, 100) for _ in range(pages)) for _ in range(4)]
            for weights in [(1,) * pages, (100,) * pages, tuple(range(1, pages + 1)), *some]:
                system = cache_system(pages, capacity, weights=weights)
                self.assertIs(is_system(system), True)
                switching, requests, start = system
                for (s, old), (t, new) in itertools.product(enumerate(states), repeat=2):
                    self.assertEqual(switching[s][t], sum(weights[page] for page in set(new) - set(old)))
                self.assertEqual(len(requests), pages)
                for page, costs in enumerate(requests):
                    self.assertEqual(costs, tuple(0 if page in state else None for state in states))
                self.assertEqual(start, 0)
            self.assertEqual(cache_system(pages, capacity), cache_system(pages, capacity, weights=(1,) * pages))
            self.assertEqual(cache_system(pages, capacity, weights=None), cache_system(pages, capacity))

    def test_weights_must_fit(self):
        for pages, capacity in SIZES:
            for at in range(pages):
                for odd in (0, 101, -1, 10**49, None, True, "1", (1,), [1]):
                    weights = (1,) * at + (odd,) + (1,) * (pages - at - 1)
                    assert_error(self, InvalidInstance, None, cache_system, pages, capacity, weights=weights)
            for count in range(8):
                if count != pages:
                    assert_error(self, InvalidInstance, None, cache_system, pages, capacity, weights=(1,) * count)
            for odd in ODD + ([1] * pages, 1, 0, {at: 1 for at in range(pages)}, "1" * pages):
                if odd is not None:
                    assert_error(self, InvalidInstance, None, cache_system, pages, capacity, weights=odd)


class TestPolicies(unittest.TestCase):
    def test_example(self):
        self.assertEqual(cache_policy(3, 2, "lru"), (
            0, (0, 0, 2, 1, 1, 2), ((1, 0, 2), (1, 0, 3), (4, 5, 2), (4, 5, 3), (4, 0, 3), (1, 5, 2)), 0,
        ))

    def test_policies_of_the_system(self):
        for pages, capacity in SIZES:
            for word, lookahead in WAYS:
                policy = cache_policy(pages, capacity, word, lookahead=lookahead)
                self.assertIs(is_policy(cache_system(pages, capacity), policy), True)
                self.assertEqual(policy[0], lookahead)

    def test_memories_in_their_order(self):
        for pages, capacity in SIZES:
            for word, lookahead in WAYS:
                with self.subTest(pages=pages, capacity=capacity, word=word, lookahead=lookahead):
                    expected = policy_by_simulation(
                        lambda: Cache(word, capacity), lookahead, pages, ascending_choices(pages, capacity)
                    )
                    self.assertEqual(cache_policy(pages, capacity, word, lookahead=lookahead), expected)

    def test_schedules_on_all_short_sequences(self):
        for pages, capacity in ((2, 1), (3, 1), (3, 2)):
            for word, lookahead in WAYS:
                for length in range(7):
                    for sequence in itertools.product(range(pages), repeat=length):
                        self.check_schedule(pages, capacity, word, lookahead, sequence)

    def test_schedules_on_long_sequences(self):
        rng = random.Random(102)
        for pages, capacity in SIZES:
            for word, lookahead in WAYS:
                for length in (1, 2, 3, 40, 400):
                    sequence = tuple(rng.randrange(pages) for _ in range(length))
                    self.check_schedule(pages, capacity, word, lookahead, sequence)

    def check_schedule(self, pages, capacity, word, lookahead, sequence):
        system = cache_system(pages, capacity)
        policy = cache_policy(pages, capacity, word, lookahead=lookahead)
        states = cache_states(pages, capacity)
        expected = schedule_by_simulation(Cache(word, capacity), lookahead, sequence)
        self.assertEqual([states[s] for s in run_schedule(system, policy, sequence)], expected)

    def test_queues_by_hand(self):
        # For each word the pages in the cache after each of the requests 0, 2, 1, 2, 3, 0, 3, 4.
        cases = {
            "lru": ("012", "012", "012", "012", "123", "023", "023", "034"),
            "mru": ("012", "012", "012", "012", "013", "013", "013", "014"),
            "fifo": ("012", "012", "012", "012", "123", "023", "023", "034"),
            "lifo": ("012", "012", "012", "012", "013", "013", "013", "014"),
            "marking": ("012", "012", "012", "012", "123", "023", "023", "034"),
            "farthest": ("012", "012", "012", "012", "013", "013", "013", "014"),
        }
        states = cache_states(5, 3)
        for word, expected in cases.items():
            found = run_schedule(cache_system(5, 3), cache_policy(5, 3, word), (0, 2, 1, 2, 3, 0, 3, 4))
            self.assertEqual(tuple("".join(str(page) for page in states[s]) for s in found), expected, word)

    def test_what_hits_do_to_the_queue(self):
        # After a hit of page 0, page 3 comes: "lru" removes 1 now, "fifo" still 0; "mru" removes 0, "lifo" still 2.
        states = cache_states(4, 3)
        cases = {"lru": (0, 2, 3), "fifo": (1, 2, 3), "mru": (1, 2, 3), "lifo": (0, 1, 3), "marking": (0, 2, 3)}
        for word, expected in cases.items():
            found = run_schedule(cache_system(4, 3), cache_policy(4, 3, word), (0, 3))
            self.assertEqual(states[found[-1]], expected, word)

    def test_marks(self):
        states = cache_states(4, 3)
        cases = (
            # Page 2 keeps its place behind page 1 when it is marked; then page 1 is the first without a mark.
            ((2, 3, 0), (0, 2, 3)),
            # All are marked, so all marks are removed, page 0 goes, and page 1 is the next one that goes.
            ((2, 1, 0, 3, 0), (0, 2, 3)),
            # A marked page that is requested again changes nothing.
            ((0, 0, 0, 3), (0, 2, 3)),
            # The page that was added is marked: in the queue 0, 2, 3 with the marks 0 and 3, page 2 goes.
            ((0, 3, 1), (0, 1, 3)),
        )
        for sequence, expected in cases:
            found = run_schedule(cache_system(4, 3), cache_policy(4, 3, "marking"), sequence)
            self.assertEqual(states[found[-1]], expected, sequence)

    def test_farthest(self):
        states = cache_states(5, 2)
        cases = (
            # Nothing is known of what follows, or neither page follows: the greatest page goes.
            (0, (4,), (0, 4)), (1, (4,), (0, 4)), (2, (4, 3, 2), (0, 4)), (2, (4, 4, 4), (0, 4)),
            # One page does not follow.
            (1, (4, 1), (1, 4)), (1, (4, 0), (0, 4)), (2, (4, 4, 1), (1, 4)), (2, (4, 1, 1), (1, 4)),
            # Both follow: the later one goes.
            (2, (4, 0, 1), (0, 4)), (2, (4, 1, 0), (1, 4)),
            # The window has no more requests than the look-ahead allows.
            (1, (4, 1, 0), (1, 4)), (0, (4, 1, 0), (0, 4)),
        )
        for lookahead, sequence, expected in cases:
            policy = cache_policy(5, 2, "farthest", lookahead=lookahead)
            found = run_schedule(cache_system(5, 2), policy, sequence)
            self.assertEqual(states[found[0]], expected, (lookahead, sequence))

    def test_no_two_memories_have_one_configuration(self):
        for pages, capacity in SIZES:
            for word, lookahead in WAYS:
                if word == "farthest":
                    policy = cache_policy(pages, capacity, word, lookahead=lookahead)
                    self.assertEqual(len(set(policy[1])), len(policy[1]))
                    self.assertEqual(reduced_policy(cache_system(pages, capacity), policy), policy)

    def test_numbers_of_memories(self):
        counts = {word: len(cache_policy(5, 4, word)[1]) for word in PLAIN}
        # Of "marking": each of the 120 queues with its last page and any others marked, and the first queue with any
        # of the first three pages marked.
        self.assertEqual(counts, {"lru": 120, "mru": 120, "fifo": 5, "lifo": 2, "marking": 120 * 8 + 8})

    def test_no_cache_policy_is_too_large(self):
        most = max(
            len(cache_policy(pages, capacity, word, lookahead=lookahead)[1])
            for pages, capacity in SIZES for word, lookahead in WAYS
        )
        self.assertEqual(most, 968)

    def test_more_than_a_thousand_configurations(self):
        def ring(length):
            return policy_of_configurations(
                0, 1, 0, lambda number, window: (number + 1) % length, lambda number: number % 2
            )

        self.assertEqual(len(ring(1000)[1]), 1000)
        assert_error(self, TooLarge, ("limit", 1000), ring, 1001)

    def test_a_policy_without_look_ahead_says_so(self):
        for word in PLAIN:
            self.assertEqual(cache_policy(4, 2, word), cache_policy(4, 2, word, lookahead=0))
            for lookahead in (1, 2, -1, 3, True, False, None, "0", (0,), [0], 10**49):
                assert_error(
                    self, InvalidNumber, ("value", lookahead), cache_policy, 4, 2, word, lookahead=lookahead
                )
        for lookahead in (-1, 3, True, False, None, "0", (0,), [0], 10**49):
            assert_error(
                self, InvalidNumber, ("value", lookahead), cache_policy, 4, 2, "farthest", lookahead=lookahead
            )
        self.assertEqual(cache_policy(4, 2, "farthest"), cache_policy(4, 2, "farthest", lookahead=0))

    def test_words(self):
        for odd in ODD + ("LRU", " lru", "lru ", "front", "mark", ("lru",), ["lru"], {"lru": 0}, 0, 1):
            assert_error(self, InvalidInstance, None, cache_policy, 3, 2, odd)
            assert_error(self, InvalidInstance, None, cache_policy, 3, 2, odd, lookahead=odd)


class TestSizes(unittest.TestCase):
    def test_numbers(self):
        for function, rest in ((cache_states, ()), (cache_system, ()), (cache_policy, ("lru",)), (cache_policy, (7,))):
            for pages in (0, 1, 6, -1, 7, *ODD):
                for capacity in (1, 0, None, 10**49):
                    assert_error(self, InvalidNumber, ("value", pages), function, pages, capacity, *rest)
            for pages in range(2, 6):
                for capacity in (0, pages, pages + 1, -1, *ODD):
                    assert_error(self, InvalidNumber, ("value", capacity), function, pages, capacity, *rest)


class TestRatios(unittest.TestCase):
    def test_ratio_is_the_capacity(self):
        for pages, capacity in SIZES:
            for word in ("lru", "fifo", "marking"):
                self.assertEqual(ratio_without_limit(pages, capacity, word), (capacity, 1), (pages, capacity, word))
        for pages, capacity in ((2, 1), (3, 1), (3, 2), (4, 2), (4, 3), (5, 4)):
            for word in ("lru", "fifo"):
                found = ratio_of(cache_system(pages, capacity), cache_policy(pages, capacity, word))
                self.assertEqual(found, (capacity, 1))

    def test_value_is_the_capacity(self):
        for pages, capacity in SIZES:
            if (pages, capacity) == (5, 3):
                assert_error(self, TooLarge, ("limit", 300), value_of, cache_system(pages, capacity))
            else:
                self.assertEqual(value_of(cache_system(pages, capacity)), (capacity, 1))

    def test_infinite_ratios(self):
        for pages, capacity in SIZES:
            for word in ("lifo", "mru"):
                expected = (1, 0) if capacity >= 2 else (1, 1)
                self.assertEqual(ratio_without_limit(pages, capacity, word), expected)

    def test_weights_make_a_difference(self):
        found = ratio_of(cache_system(3, 2, weights=(1, 1, 9)), cache_policy(3, 2, "lru"))
        self.assertNotEqual(found, (2, 1))


class TestMemories(unittest.TestCase):
    def test_runs_by_hand(self):
        policy = cache_policy(3, 2, "lru")
        # The queues of the memories are 01, 10, 12, 02, 20, 21.
        self.assertEqual(run_memories(cache_system(3, 2), policy, (0, 2, 0, 1, 2, 1)), (1, 3, 4, 0, 2, 5))


if __name__ == "__main__":
    unittest.main()
