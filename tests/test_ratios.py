"""Stage 6: the ratio of a policy."""

import unittest

from hindcost.errors import InvalidOffline, InvalidPolicy, InvalidSystem, InvalidWork, TooLarge
from hindcost.policies.reduced import reduced_policy
from hindcost.policies.runs import run_cost
from hindcost.ratios.certificates import is_ratio_certificate
from hindcost.ratios.fractions import compare_ratios, is_ratio
from hindcost.ratios.ratios import ratio_certificate, ratio_of
from hindcost.schedules.schedules import optimum
from tests import slow
from tests.helpers import A, EIGHT, MOVE, ODD, ONE, STAY, T, TWO, assert_error, slide, turning

CASES = list(slow.random_cases(41, 240))
# Whatever is requested, the states cost the same, so that nothing is lost and nothing is gained.
EVEN = (((0, 1), (1, 0)), ((3, 3), (5, 5)), 0)
PAYING = (((0, 1), (1, 0)), ((1, 1), (1, 1)), 0)


def there_and_back(length):
    """A policy for two requests: request 0 goes to the next memory, request 1 back; only the way back costs."""
    moves = tuple((max(1, min(m + 1, length - 1)), max(m - 1, 0)) for m in range(length))
    return (0, (0,) + (1,) * (length - 1), moves, 0)


class TestRatioOf(unittest.TestCase):
    def test_examples(self):
        self.assertEqual([ratio_of(A, MOVE), ratio_of(A, STAY)], [(1, 1), (1, 0)])
        self.assertEqual(ratio_certificate(A, STAY)[:2], ((1, 0), None))
        self.assertEqual(ratio_of(T, MOVE), (4, 1))

    def test_loops_whose_sums_are_zero(self):
        # Every loop costs nothing and gains nothing.
        for policy in (turning(1, 0, 2), turning(5, 0, 2), turning(3, 1, 2), turning(2, 2, 2)):
            self.assertEqual(ratio_of(TWO, policy), (0, 1))
            potential = ratio_certificate(TWO, policy)[1]
            self.assertEqual(len(set(potential)), 1)
            self.assertIsNone(ratio_certificate(TWO, policy)[2])

    def test_zero_and_infinity(self):
        # The offline system pays and the policy does not; then it is the other way round.
        self.assertEqual(ratio_of(TWO, turning(1, 0, 2), offline=PAYING), (0, 1))
        self.assertEqual(ratio_of(PAYING, turning(1, 0, 2), offline=TWO), (1, 0))
        self.assertEqual(ratio_of(PAYING, turning(1, 0, 2)), (1, 1))
        self.assertEqual(ratio_of(EVEN, turning(1, 0, 2), offline=PAYING), (5, 1))
        self.assertEqual(ratio_of(PAYING, turning(1, 0, 2), offline=EVEN), (1, 3))

    def test_costs_that_are_paid_only_once(self):
        # The policy switches once, then everything is free: the ratio does not count it.
        policy = (0, (0, 1), ((1, 1), (1, 1)), 0)
        self.assertEqual(ratio_of(TWO, policy), (0, 1))
        # It switches there and back for ever.
        policy = (0, (0, 1), ((1, 1), (0, 0)), 0)
        self.assertEqual(ratio_of(TWO, policy), (1, 0))
        self.assertEqual(ratio_of(TWO, policy, offline=PAYING), (1, 1))

    def test_by_hand(self):
        seen = {}
        for system, policy, offline, form in CASES:
            base = system if offline is None else offline
            edges = slow.edges_by_hand(system, base, policy, form)
            if len(edges) <= 14:
                found = ratio_of(system, policy, offline=offline, form=form)
                self.assertEqual(found, slow.ratio_by_hand(edges), (system, policy, offline, form))
                self.assertTrue(is_ratio(found))
                kind = found if found in ((0, 1), (1, 0)) else "fraction"
                seen[policy[0], kind] = seen.get((policy[0], kind), 0) + 1
        for lookahead in (0, 1, 2):
            self.assertGreater(seen[lookahead, (0, 1)], 2)
            self.assertGreater(seen[lookahead, (1, 0)], 3)
            self.assertGreater(seen[lookahead, "fraction"], 3)

    def test_zero_or_at_least_one_against_the_system_itself(self):
        above = 0
        for system, policy, _, form in CASES:
            for keywords in ({}, {"offline": system}):
                found = ratio_of(system, policy, **keywords)
                self.assertTrue(found == (0, 1) or compare_ratios(found, (1, 1)) >= 0, (system, policy))
                above += found not in ((0, 1), (1, 0), (1, 1))
        self.assertGreater(above, 20)

    def test_own_system_and_first_form_change_nothing(self):
        for system, policy, offline, _ in CASES[:80]:
            own = slow.first_form(system)
            for function in (ratio_of, ratio_certificate):
                expected = function(system, policy)
                for keywords in ({"offline": system}, {"form": own}, {"form": own, "offline": system}):
                    self.assertEqual(function(system, policy, **keywords), expected)

    def test_the_reduced_policy_has_the_same_ratio(self):
        for system, policy, offline, form in CASES:
            keywords = {"offline": offline, "form": form}
            reduced = reduced_policy(system, policy)
            self.assertEqual(ratio_of(system, reduced, **keywords), ratio_of(system, policy, **keywords))

    def test_memories_that_are_not_reached(self):
        # Memory 2 is not reached; its loop would be an infinite ratio.
        policy = (0, (0, 1, 0), ((0, 1), (0, 1), (2, 2)), 0)
        self.assertEqual(ratio_of(A, policy), (1, 1))

    def test_costs_stay_below_ratio_times_optimum(self):
        for system, policy, offline, _ in CASES:
            ratio, potential, _ = ratio_certificate(system, policy, offline=offline)
            if ratio == (1, 0):
                continue
            base = system if offline is None else offline
            bound = max(potential) - min(potential) + 10 * ratio[1] * 3
            for sequence in ((0,) * 40, (0, len(system[1]) - 1) * 20, (len(system[1]) - 1,) * 33 + (0,) * 20):
                cost = run_cost(system, policy, sequence)
                self.assertLessEqual(ratio[1] * cost, ratio[0] * optimum(base, sequence) + bound)

    def test_great_costs(self):
        offline = (((0, 1), (1, 0)), ((1, 1), (1000, 1000)), 0)
        system = (((0, 1000), (1000, 0)), ((1000, 1000), (0, 0)), 0)
        policy = (0, (0, 1), ((1, 0), (0, 1)), 0)
        self.assertEqual(ratio_of(system, policy, offline=offline), (2000, 1))
        policy = (0, (0, 1), ((0, 1), (0, 1)), 0)
        self.assertEqual(ratio_of(system, policy, offline=offline), (1000, 1))
        self.assertEqual(ratio_of(offline, policy, offline=system), (1, 0))


class TestSizes(unittest.TestCase):
    def test_thousand_positions_and_more(self):
        policy = turning(1000, 0, 1)
        self.assertEqual(ratio_of(ONE, policy), (0, 1))
        system, offline = (ONE[0], ((2, 2),), 0), (ONE[0], ((3, 3),), 0)
        certificate = ratio_certificate(system, policy, offline=offline)
        self.assertEqual(certificate[0], (2, 3))
        self.assertEqual(certificate[2], ((), (0,) * 1000))
        self.assertTrue(is_ratio_certificate(system, policy, certificate, offline=offline))
        for function in (ratio_of, ratio_certificate):
            for lookahead, more in ((1, 501), (2, 251)):
                assert_error(self, TooLarge, ("limit", 1000), function, TWO, turning(more, lookahead, 2))
            offline = slide(50, 49)
            assert_error(self, TooLarge, ("limit", 1000), function, ONE, turning(902, 0, 1), offline=offline)
            self.assertTrue(function(ONE, turning(901, 0, 1), offline=offline))

    def test_longest_prefix(self):
        # A chain of 999 memories leads to a last one, in which alone something is paid.
        moves = tuple((min(m + 1, 999),) for m in range(1000))
        system = (((0, 1), (1, 0)), ((0, 7),), 0)
        policy = (0, (0,) * 999 + (1,), moves, 0)
        self.assertEqual(ratio_certificate(system, policy), ((1, 0), None, ((0,) * 999, (0,))))

    def test_long_ways_back(self):
        system = (((0, 1), (1, 0)), ((0, 0), (0, 5)), 0)
        offline = (((0, 1), (1, 0)), ((5, 5), (1, 1)), 0)
        policy = there_and_back(600)
        certificate = ratio_certificate(system, policy, offline=offline)
        self.assertEqual(certificate[0], (5, 6))
        self.assertTrue(is_ratio_certificate(system, policy, certificate, offline=offline))

    def test_lookahead_two_and_eight_requests(self):
        policy = turning(15, 2, 8)
        self.assertEqual(ratio_of(EIGHT, policy), (0, 1))
        assert_error(self, TooLarge, ("limit", 1000), ratio_of, EIGHT, turning(16, 2, 8))


class TestErrors(unittest.TestCase):
    def test_order(self):
        for function in (ratio_of, ratio_certificate):
            for odd in ODD + ((0, 2), (1, 1), [0, 1]):
                assert_error(self, InvalidSystem, None, function, odd, odd, offline=odd, form=odd)
                assert_error(self, InvalidPolicy, None, function, A, odd)
                if odd is not None:
                    assert_error(self, InvalidOffline, None, function, A, odd, form=odd, offline=odd)
                    assert_error(self, InvalidWork, None, function, A, odd, form=odd)
                    assert_error(self, InvalidWork, None, function, TWO, turning(501, 1, 2), form=odd)


if __name__ == "__main__":
    unittest.main()
