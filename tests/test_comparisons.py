"""Stage 8: comparisons of two policies."""

import random
import unittest

from hindcost.comparisons import comparisons
from hindcost.comparisons.comparisons import (
    excess_certificate, excess_of, factor_certificate, factor_of, is_excess_certificate, is_factor_certificate,
    reachable_pairs,
)
from hindcost.errors import InvalidPolicy, InvalidSystem, TooLarge
from hindcost.policies.runs import run_cost
from hindcost.ratios.fractions import compare_ratios
from hindcost.ratios.ratios import ratio_of
from tests import slow
from tests.helpers import (
    A, EIGHT, MOVE, ODD, ONE, STAY, T, TWO, assert_error, product_of, random_policy, random_system, replacements,
    turning, window_count,
)

PAYING = (ONE[0], ((1, 1),), 0)


def random_pairs(seed, count):
    """Systems with two policies of the same look-ahead, some of them equal or nearly so."""
    rng = random.Random(seed)
    for at in range(count):
        lookahead = at % 3
        system = random_system(rng, rng.choice((2, 3)), rng.choice((1, 2)) if lookahead == 2 else rng.choice((1, 2, 3)))
        first = random_policy(rng, system, lookahead, rng.choice((2, 3, 4)))
        second = first if at % 10 == 9 else random_policy(rng, system, lookahead, rng.choice((2, 3)))
        yield system, first, second


CASES = list(random_pairs(71, 150))


def chain(states, lookahead=0):
    """A policy for ONE with one memory after the other; the last one leads to itself."""
    last = len(states) - 1
    return (lookahead, tuple(states), tuple((min(m + 1, last),) * (lookahead + 1) for m in range(len(states))), 0)


def changed_numbers(value):
    for at in range(len(value)):
        for step in (-1, 1):
            yield value[:at] + (value[at] + step,) + value[at + 1:]
    yield value[:-1]
    yield value + (0,)


class TestReachablePairs(unittest.TestCase):
    def test_example(self):
        self.assertEqual(reachable_pairs(A, MOVE, STAY), ((0, 0, ()), (1, 0, ())))
        self.assertEqual(comparisons.MAX_PAIRS, 1000)

    def test_by_hand(self):
        for system, first, second in CASES:
            found = reachable_pairs(system, first, second)
            self.assertEqual(found, tuple(slow.pair_edges_by_hand(system, first, second)))

    def test_pending_requests(self):
        self.assertEqual(reachable_pairs(TWO, turning(1, 1, 2), turning(1, 1, 2)), ((0, 0, (0,)), (0, 0, (1,))))
        self.assertEqual(len(reachable_pairs(EIGHT, turning(3, 2, 8), turning(5, 2, 8))), 960)

    def test_thousand_pairs_and_more(self):
        self.assertEqual(len(reachable_pairs(ONE, turning(8, 0, 1), turning(125, 0, 1))), 1000)
        functions = (reachable_pairs, excess_of, excess_certificate, factor_of, factor_certificate)
        for one, other in ((7, 143), (143, 7), (1000, 3)):
            for function in functions:
                kept = ("limit", 1000)
                assert_error(self, TooLarge, kept, function, ONE, turning(one, 0, 1), turning(other, 0, 1))
            for function in (is_excess_certificate, is_factor_certificate):
                for value in (None, (0, (), (0,) * 1001), ((0, 1), (0,) * 1001, None)):
                    assert_error(self, TooLarge, kept, function, ONE, turning(one, 0, 1), turning(other, 0, 1), value)
        for lookahead, fits, more in ((1, 500, 501), (2, 250, 251)):
            still = turning(1, lookahead, 2)
            self.assertEqual(len(reachable_pairs(TWO, turning(fits, lookahead, 2), still)), 1000)
            assert_error(self, TooLarge, kept, reachable_pairs, TWO, turning(more, lookahead, 2), still)


class TestErrors(unittest.TestCase):
    def calls(self):
        for function in (reachable_pairs, excess_of, excess_certificate, factor_of, factor_certificate):
            yield function, ()
        for function in (is_excess_certificate, is_factor_certificate):
            for value in (None, 3, (0, (), (0, 0))):
                yield function, (value,)

    def test_order(self):
        for function, rest in self.calls():
            for odd in ODD + (list(MOVE), MOVE[:3] + (1,), (1,) + MOVE[1:], MOVE[:3]):
                assert_error(self, InvalidPolicy, None, function, A, odd, MOVE, *rest)
                assert_error(self, InvalidPolicy, None, function, A, MOVE, odd, *rest)
                assert_error(self, InvalidPolicy, None, function, A, odd, odd, *rest)
                assert_error(self, InvalidSystem, None, function, odd, odd, MOVE, *rest)
                assert_error(self, InvalidSystem, None, function, A[:2], MOVE, odd, *rest)

    def test_other_lookahead(self):
        policies = [turning(2, lookahead, 2) for lookahead in range(3)]
        for function, rest in self.calls():
            for first in policies:
                for second in policies:
                    if first[0] != second[0]:
                        assert_error(self, InvalidPolicy, None, function, TWO, first, second, *rest)
                    else:
                        function(TWO, first, second, *rest)
            # It is noticed before there are too many pairs.
            assert_error(self, InvalidPolicy, None, function, TWO, turning(501, 1, 2), turning(1, 0, 2), *rest)


class TestExcess(unittest.TestCase):
    def test_examples(self):
        found = [
            excess_of(A, MOVE, STAY), excess_of(A, STAY, MOVE),
            is_excess_certificate(A, STAY, MOVE, (None, ((1,), (1,)), None)),
        ]
        self.assertEqual(found, [0, None, True])

    def test_policy_compared_with_itself(self):
        for system, first, _ in CASES:
            self.assertEqual(excess_of(system, first, first), 0)
            excess, witness, bounds = excess_certificate(system, first, first)
            self.assertEqual((excess, run_cost(system, first, witness)), (0, run_cost(system, first, witness)))
            self.assertEqual(set(bounds), {0})

    def test_all_sequences_of_a_few_requests(self):
        kinds = {}
        for system, first, second in CASES:
            excess, witness, bounds = excess_certificate(system, first, second)
            self.assertEqual(excess_of(system, first, second), excess)
            differences = [
                slow.cost_of_run(system, first, tried) - slow.cost_of_run(system, second, tried)
                for tried in slow.sequences_up_to(len(system[1]), 5 if len(system[1]) < 3 else 4)
            ]
            edges = slow.pair_edges_by_hand(system, first, second)
            if excess is None:
                self.assertIsNone(bounds)
                prefix, loop = witness
                costs = [run_cost(system, first, prefix + loop * n) for n in range(5)]
                others = [run_cost(system, second, prefix + loop * n) for n in range(5)]
                gaps = [cost - other for cost, other in zip(costs, others)]
                self.assertTrue(all(one < two for one, two in zip(gaps, gaps[1:])))
                if len(edges) <= 14:
                    self.assertTrue(any(cost > other for cost, other in slow.loops_by_hand(edges)))
            else:
                self.assertLessEqual(max(differences), excess)
                self.assertEqual(
                    slow.cost_of_run(system, first, witness) - slow.cost_of_run(system, second, witness), excess
                )
                if len(edges) <= 14:
                    self.assertFalse(any(cost > other for cost, other in slow.loops_by_hand(edges)))
            kind = "none" if excess is None else "zero" if excess == 0 else "more"
            kinds[first[0], kind] = kinds.get((first[0], kind), 0) + 1
            kinds["attained"] = kinds.get("attained", 0) + (excess == max(differences))
        self.assertEqual(len(kinds), 10)
        self.assertGreater(min(kinds.values()), 1)

    def test_excess_of_the_requests_at_the_end(self):
        # Only a run of one request differs: longer ones know that more requests come.
        system = (((0, 5), (7, 0)), ((0, 0),), 0)
        first = (2, (0, 1), ((1, 0, 0), (1, 0, 0)), 0)
        self.assertEqual(excess_of(system, first, turning(1, 2, 1)), 5)
        self.assertEqual(excess_certificate(system, first, turning(1, 2, 1))[1], (0,))
        self.assertEqual(excess_of(system, turning(1, 2, 1), first), 0)
        # Only the last request of a run of at least two differs.
        first = (1, (0, 0, 1), ((0, 1), (2, 1), (2, 1)), 0)
        self.assertEqual(excess_of(system, first, turning(1, 1, 1)), 5)
        self.assertEqual(excess_certificate(system, first, turning(1, 1, 1))[:2], (5, (0, 0)))

    def test_longest_chains(self):
        # Each step of the chain costs 1; the second policy pays nothing.
        states = (0,) + (1, 0) * 499 + (1,)
        for lookahead in (0, 1, 2):
            policy = chain(states, lookahead)
            certificate = excess_certificate(ONE, policy, turning(1, lookahead, 1))
            self.assertEqual(certificate[:2], (999, (0,) * 999))
            self.assertTrue(is_excess_certificate(ONE, policy, turning(1, lookahead, 1), certificate))
            self.assertEqual(excess_of(ONE, turning(1, lookahead, 1), policy), 0)

    def test_longest_loop_and_prefix(self):
        # A ring of 1000 memories with one switch there and back.
        moves = tuple(((m + 1) % 1000,) for m in range(1000))
        ring = (0, (0,) * 999 + (1,), moves, 0)
        certificate = excess_certificate(ONE, ring, turning(1, 0, 1))
        self.assertEqual((certificate[0], len(certificate[1][1]), certificate[2]), (None, 1000, None))
        self.assertTrue(is_excess_certificate(ONE, ring, turning(1, 0, 1), certificate))
        # A chain of 999 memories that leads to the one in which something is paid.
        system = (ONE[0], ((0, 7),), 0)
        late = chain((0,) * 999 + (1,))
        self.assertEqual(excess_certificate(system, late, turning(1, 0, 1)), (None, ((0,) * 999, (0,)), None))


class TestIsExcessCertificate(unittest.TestCase):
    def accepted_by_hand(self, system, first, second, value):
        """For an integer excess and bounds that are integers."""
        excess, witness, bounds = value
        edges = slow.pair_edges_by_hand(system, first, second)
        finishes = {pair: slow.pair_finishing(system, first, second, pair) for pair in edges}
        if len(bounds) != len(edges) or not slow.bounds_hold(edges, finishes, (1, 1), bounds):
            return False

        def difference(requests):
            return slow.cost_of_run(system, first, requests) - slow.cost_of_run(system, second, requests)

        known = dict(zip(edges, bounds))
        greatest = [known[first[3], second[3], pending] for pending in product_of(len(system[1]), first[0])]
        greatest += [difference(requests) for requests in slow.sequences_up_to(len(system[1]), first[0] - 1)]
        return max(greatest) == excess == difference(witness)

    def test_returned_and_changed_ones(self):
        found = {True: 0, False: 0}
        for system, first, second in CASES:
            certificate = excess_certificate(system, first, second)
            self.assertIs(is_excess_certificate(system, first, second, certificate), True)
            excess, witness, bounds = certificate
            if excess is None:
                continue
            values = [(excess + 1, witness, bounds), (excess - 1, witness, bounds), (excess, witness[:-1], bounds)]
            values += [(excess, witness + (r,), bounds) for r in range(len(system[1]))]
            values += [(excess, witness, changed) for changed in list(changed_numbers(bounds))[-42:]]
            values += [(excess, (), bounds), (0, (), bounds), (excess, witness, tuple(b + 1 for b in bounds))]
            for value in values:
                expected = self.accepted_by_hand(system, first, second, value)
                found[expected] += 1
                self.assertIs(is_excess_certificate(system, first, second, value), expected, value)
            for value in ((None, witness, bounds), (None, witness, None), (excess, witness, None)):
                self.assertIs(is_excess_certificate(system, first, second, value), False)
        self.assertGreater(min(found.values()), 100)

    def test_greater_bounds_where_nothing_begins(self):
        # The first policy switches once; the second one does so, too, and then once more.
        first, second = chain((0, 1)), chain((0, 1, 0))
        self.assertEqual(reachable_pairs(ONE, first, second), ((0, 0, ()), (1, 1, ()), (1, 2, ())))
        expected = {
            (0, 0, 0): True, (0, 0, 1): True, (0, 0, 2): False, (0, 1, 0): False, (1, 0, 0): False, (0, 0, -1): False,
            (0, -1, 0): False, (-1, 0, 0): False, (1, 1, 1): False, (0, 0): False, (0, 0, 0, 0): False,
        }
        for bounds, accepted in expected.items():
            self.assertIs(is_excess_certificate(ONE, first, second, (0, (0,), bounds)), accepted, bounds)
        self.assertIs(is_excess_certificate(ONE, first, second, (0, (0, 0), (0, 0, 0))), False)
        self.assertIs(is_excess_certificate(ONE, first, second, (1, (0,), (1, 1, 1))), False)

    def test_witnesses_without_bound(self):
        for witness, accepted in (
            (((1,), (1,)), True), (((0, 1, 1), (1, 1)), True), (((), (1,)), False), (((0,), (0,)), False),
            (((1,), ()), False), (((1,), (0, 1)), False), (((), (1, 1)), False), (((0,), (1,)), False),
        ):
            self.assertIs(is_excess_certificate(A, STAY, MOVE, (None, witness, None)), accepted, witness)
        # Along the loop both policies pay the same, or the first one pays less.
        self.assertIs(is_excess_certificate(A, MOVE, STAY, (None, ((), (1, 0)), None)), False)
        self.assertIs(is_excess_certificate(A, MOVE, STAY, (None, ((1,), (1,)), None)), False)

    def test_loops_begun_elsewhere_or_repeated(self):
        for system, first, second in CASES:
            excess, witness, _ = excess_certificate(system, first, second)
            if excess is None:
                prefix, loop = witness
                for at in range(len(loop)):
                    value = (None, (prefix + loop[:at], (loop[at:] + loop[:at]) * 2), None)
                    self.assertIs(is_excess_certificate(system, first, second, value), True)
                for value in ((None, witness, ()), (0, witness, None), (None, loop, None)):
                    self.assertIs(is_excess_certificate(system, first, second, value), False)

    def test_bounds_of_the_lengths(self):
        for lookahead in (0, 1, 2):
            still = turning(1, lookahead, 1)
            for length in (0, 1, 999, 1000, 1001, 1002, 1003, 1004, 1005):
                expected = length <= 1000 + 2 * lookahead
                self.assertIs(is_excess_certificate(ONE, still, still, (0, (0,) * length, (0,))), expected)
            row = window_count(1, lookahead)
            swing = (lookahead, (0, 1), ((1,) * row, (0,) * row), 0)
            for length in (0, 1, 2, 3, 999, 1000, 1001, 1002, 1003):
                value = (None, ((0,) * length, (0, 0)), None)
                expected = lookahead <= length <= 1000 + lookahead
                self.assertIs(is_excess_certificate(ONE, swing, still, value), expected)
            for length in (0, 1, 2, 998, 999, 1000, 1001, 1002):
                value = (None, ((0,) * lookahead, (0,) * length), None)
                expected = 1 <= length <= 1000 and length % 2 == 0
                self.assertIs(is_excess_certificate(ONE, swing, still, value), expected)

    def test_other_values(self):
        valid = (0, (1,), (0, 1))
        self.assertIs(is_excess_certificate(A, MOVE, MOVE, valid), False)
        valid = (0, (1,), (0, 0))
        self.assertIs(is_excess_certificate(A, MOVE, MOVE, valid), True)
        for value in (*ODD, *replacements(valid), list(valid), valid[:2], valid + (0,), (False, (1,), (0, 0))):
            if repr(value) != repr((0, (), (0, 0))):
                self.assertIs(is_excess_certificate(A, MOVE, MOVE, value), False, value)
        valid = (None, ((1,), (1,)), None)
        for value in (*replacements(valid), list(valid)):
            if repr(value) != repr(valid):
                self.assertIs(is_excess_certificate(A, STAY, MOVE, value), False, value)


class TestFactor(unittest.TestCase):
    def test_examples(self):
        self.assertEqual([factor_of(A, MOVE, STAY), factor_of(A, STAY, MOVE)], [(1, 1), (1, 0)])

    def test_zero_and_infinity(self):
        # In state 0 nothing is paid, in state 1 each request costs 7.
        system = (ONE[0], ((0, 7),), 0)
        free, paying = turning(1, 0, 1), chain((0, 1))
        self.assertEqual(factor_of(system, free, paying), (0, 1))
        self.assertEqual(factor_of(system, paying, free), (1, 0))
        self.assertEqual(factor_of(system, free, free), (0, 1))
        self.assertEqual(factor_of(system, paying, paying), (1, 1))
        self.assertEqual(factor_certificate(system, paying, free), ((1, 0), None, ((0,), (0,))))
        self.assertEqual(factor_certificate(system, free, paying)[2], None)
        self.assertEqual(factor_of((ONE[0], ((2, 7),), 0), paying, free), (7, 2))
        self.assertEqual(factor_of((ONE[0], ((2, 7),), 0), free, paying), (2, 7))

    def test_policy_compared_with_itself(self):
        found = set()
        for system, first, _ in CASES:
            factor = factor_of(system, first, first)
            costs = any(cost > 0 for cost, _ in slow.loops_by_hand(slow.pair_edges_by_hand(system, first, first)))
            self.assertEqual(factor, (1, 1) if costs else (0, 1))
            found.add(factor)
        self.assertEqual(found, {(0, 1), (1, 1)})

    def test_by_hand(self):
        seen = {}
        for system, first, second in CASES:
            edges = slow.pair_edges_by_hand(system, first, second)
            factor = factor_of(system, first, second)
            self.assertEqual(factor_certificate(system, first, second)[0], factor)
            if len(edges) <= 14:
                self.assertEqual(factor, slow.ratio_by_hand(edges))
                kind = factor if factor in ((0, 1), (1, 0)) else "fraction"
                seen[first[0], kind] = seen.get((first[0], kind), 0) + 1
        self.assertEqual(len(seen), 9)

    def test_ratio_is_at_most_the_factor_times_the_other_ratio(self):
        for system, first, second in CASES:
            factor, ratio = factor_of(system, first, second), ratio_of(system, second)
            if (1, 0) not in (factor, ratio):
                bound = slow.quotient(factor[0] * ratio[0], factor[1] * ratio[1])
                self.assertLessEqual(compare_ratios(ratio_of(system, first), bound), 0)

    def test_excess_without_bound_exactly_above_one(self):
        for system, first, second in CASES:
            above = compare_ratios(factor_of(system, first, second), (1, 1)) > 0
            self.assertEqual(excess_of(system, first, second) is None, above)


class TestIsFactorCertificate(unittest.TestCase):
    def test_returned_and_changed_ones(self):
        found = {True: 0, False: 0}
        for system, first, second in CASES:
            edges = slow.pair_edges_by_hand(system, first, second)
            certificate = factor_certificate(system, first, second)
            self.assertIs(is_factor_certificate(system, first, second, certificate), True)
            factor, potential, trap = certificate
            self.assertEqual((potential is None, trap is None), (factor == (1, 0), factor == (0, 1)))
            for other in ((0, 1), (1, 0), (1, 1), (2, 1), (1, 2)):
                if other != factor:
                    self.assertIs(is_factor_certificate(system, first, second, (other, potential, trap)), False)
            if potential is not None:
                shifted = tuple(number - 10**49 for number in potential)
                self.assertIs(is_factor_certificate(system, first, second, (factor, shifted, trap)), True)
                for changed in list(changed_numbers(potential))[-42:]:
                    expected = len(changed) == len(edges) and slow.potential_holds(edges, factor, changed)
                    found[expected] += 1
                    self.assertIs(is_factor_certificate(system, first, second, (factor, changed, trap)), expected)
            if trap is not None:
                prefix, loop = trap
                for at in range(len(loop)):
                    turned = (prefix + loop[:at], (loop[at:] + loop[:at]) * 2)
                    self.assertIs(is_factor_certificate(system, first, second, (factor, potential, turned)), True)
                begin = (first[3], second[3])
                for other in slow.sequences_up_to(len(system[1]), 2):
                    expected = slow.trap_holds(edges, begin, first[0], factor, (prefix, other))
                    value = (factor, potential, (prefix, other))
                    found[expected] += 1
                    self.assertIs(is_factor_certificate(system, first, second, value), expected)
        self.assertGreater(min(found.values()), 100)

    def test_other_ones_by_others(self):
        self.assertIs(is_factor_certificate(A, MOVE, STAY, ((1, 1), (0, 0), ((), (1, 0)))), False)
        self.assertIs(is_factor_certificate(A, MOVE, STAY, ((1, 1), (0, 1), ((), (1, 0)))), True)
        self.assertIs(is_factor_certificate(A, MOVE, STAY, ((1, 1), (7, 8), ((1, 0, 1), (0, 1, 0, 1)))), True)
        self.assertIs(is_factor_certificate(A, STAY, MOVE, ((1, 0), None, ((0, 1, 1), (1, 1, 1)))), True)
        self.assertIs(is_factor_certificate(A, STAY, MOVE, ((1, 0), (0, 0), ((1,), (1,)))), False)

    def test_bounds_of_the_lengths(self):
        for lookahead in (0, 1, 2):
            still = turning(1, lookahead, 1)
            for length in (0, 1, 2, 3, 1000, 1001, 1002, 1003):
                value = ((1, 1), (0,), ((0,) * length, (0,)))
                expected = lookahead <= length <= 1000 + lookahead
                self.assertIs(is_factor_certificate(PAYING, still, still, value), expected)
            for length in (0, 1, 1000, 1001):
                value = ((1, 1), (0,), ((0,) * lookahead, (0,) * length))
                self.assertIs(is_factor_certificate(PAYING, still, still, value), 1 <= length <= 1000)

    def test_other_values(self):
        valid = ((1, 1), (0, 1), ((1,), (0, 1)))
        self.assertIs(is_factor_certificate(A, MOVE, STAY, valid), True)
        for value in (*ODD, *replacements(valid), list(valid), valid[:2], valid + (None,), ((1, True), *valid[1:])):
            self.assertIs(is_factor_certificate(A, MOVE, STAY, value), False, value)
        self.assertIs(is_factor_certificate(T, STAY, STAY, ((1, 1), (0,), ((), (1,)))), True)


if __name__ == "__main__":
    unittest.main()
