"""Stage 7: surpluses, surcharges and their certificates."""

import fractions as exact
import unittest

from hindcost.errors import (
    BelowRatio, InvalidNumber, InvalidOffline, InvalidPolicy, InvalidSequence, InvalidSystem, InvalidWork, TooLarge,
)
from hindcost.policies.runs import run_cost
from hindcost.ratios.fractions import is_ratio
from hindcost.ratios.ratios import ratio_of
from hindcost.ratios.surcharges import (
    is_surcharge_certificate, surcharge_certificate, surcharge_of, surplus_of,
)
from hindcost.schedules.schedules import optimum
from tests import slow
from tests.helpers import A, MOVE, ODD, ONE, STAY, T, TWO, assert_error, replacements, slide, turning

CASES = list(slow.random_cases(61, 90))
FRACTIONS = ((0, 1), (1, 1), (1, 2), (5, 3), (4, 1))
NO_FRACTIONS = (
    None, 1, (1, 0), (2, 4), (0, 0), (2, 0), (True, 1), (1, False), (1,), [1, 1], "1/1", (-1, 1), (1, 1, 1), {1: 1},
)
# One request that always costs 3.
DEAR = (ONE[0], ((3, 3),), 0)


def base_of(system, offline):
    return system if offline is None else offline


def fitting_fractions(ratio):
    """Some fractions that are at least the ratio."""
    if ratio == (1, 0):
        return ()
    p, q = ratio
    above = exact.Fraction(p, q) + exact.Fraction(1, 7)
    return (ratio, (above.numerator, above.denominator), (p + 3 * q, q))


def certified_cases():
    """Each case with a fitting fraction and the surcharge certificate that is returned for it."""
    for system, policy, offline, form in CASES:
        keywords = {"offline": offline, "form": form}
        for ratio in fitting_fractions(ratio_of(system, policy, **keywords)):
            yield system, policy, ratio, keywords, surcharge_certificate(system, policy, ratio, **keywords)


def edges_and_finishes(system, policy, keywords):
    base = base_of(system, keywords["offline"])
    edges = slow.edges_by_hand(system, base, policy, keywords["form"])
    return edges, {place: slow.finishing(system, base, policy, place) for place in edges}


class TestSurplusOf(unittest.TestCase):
    def test_example(self):
        self.assertEqual(surplus_of(A, MOVE, (1, 2), (1, 0)), 2)

    def test_by_hand(self):
        for system, policy, offline, form in CASES:
            base = base_of(system, offline)
            for sequence in slow.sequences_up_to(len(system[1]), 3):
                cost = slow.cost_of_run(system, policy, sequence)
                increases = slow.optimum_by_hand(base, sequence, form)
                for p, q in FRACTIONS:
                    found = surplus_of(system, policy, (p, q), sequence, offline=offline, form=form)
                    self.assertEqual(found, q * cost - p * increases)

    def test_against_cost_and_optimum(self):
        for system, policy, offline, _ in CASES:
            base = base_of(system, offline)
            for sequence in ((0,) * 30, (0, len(system[1]) - 1) * 10):
                expected = 3 * run_cost(system, policy, sequence) - 5 * optimum(base, sequence)
                self.assertEqual(surplus_of(system, policy, (5, 3), sequence, offline=offline), expected)

    def test_sequences_shorter_than_the_lookahead(self):
        # The windows that are not full lead to memory 1, and the switch costs 1.
        policy = (2, (0, 1), ((1,) * 6 + (0,) * 8,) * 2, 0)
        self.assertEqual([surplus_of(TWO, policy, (0, 1), (0,) * n) for n in range(5)], [0, 1, 1, 1, 1])
        self.assertEqual(surplus_of(TWO, policy, (1, 9), ()), 0)

    def test_greatest_numbers(self):
        huge = 10**49
        self.assertEqual(surplus_of(DEAR, turning(1, 0, 1), (huge, 1), (0,) * 400), 1200 - 1200 * huge)
        self.assertEqual(surplus_of(DEAR, turning(1, 0, 1), (1, huge), (0,) * 400), 1200 * huge - 1200)

    def test_errors(self):
        for sequence in ODD + ([1], (2,), (0,) * 401):
            if sequence != ():
                assert_error(self, InvalidSequence, None, surplus_of, A, MOVE, (1, 1), sequence)
            for ratio in NO_FRACTIONS:
                assert_error(self, InvalidNumber, ("value", ratio), surplus_of, A, MOVE, ratio, sequence)
        # There is no limit of positions, and no ratio is too small.
        self.assertEqual(surplus_of(TWO, turning(501, 1, 2), (0, 1), (0, 1)), 0)
        self.assertEqual(surplus_of(A, STAY, (1, 2), (1, 1)), 7)


class TestSurchargeOf(unittest.TestCase):
    def test_example(self):
        self.assertEqual(surcharge_of(A, MOVE, (1, 1)), (0, 1))

    def test_fraction_equal_to_the_ratio_and_one_below(self):
        self.assertEqual(ratio_of(T, MOVE), (4, 1))
        self.assertEqual(surcharge_of(T, MOVE, (4, 1)), (0, 1))
        self.assertEqual(surcharge_of(T, MOVE, (9, 2)), (0, 1))
        self.assertEqual(surcharge_of(T, MOVE, (10**49, 1)), (0, 1))
        for below in ((0, 1), (1, 1), (3, 1), (39, 10), (4 * 10**48 - 1, 10**48)):
            assert_error(self, BelowRatio, ("ratio", (4, 1)), surcharge_of, T, MOVE, below)
            assert_error(self, BelowRatio, ("ratio", (4, 1)), surcharge_certificate, T, MOVE, below)
        for ratio in ((0, 1), (4, 1), (10**49, 1)):
            assert_error(self, BelowRatio, ("ratio", (1, 0)), surcharge_of, A, STAY, ratio)

    def test_surcharges_that_are_no_integers(self):
        # The policy switches at the first request, for 2, and saves nothing by it.
        system = (((0, 2), (2, 0)), ((3, 3),), 0)
        policy = (0, (0, 1), ((1,), (1,)), 0)
        self.assertEqual(surcharge_of(system, policy, (1, 1)), (2, 1))
        self.assertEqual(surcharge_of(system, policy, (4, 3)), (1, 1))
        self.assertEqual(surcharge_of(system, policy, (9, 8)), (13, 8))
        self.assertEqual(surcharge_of(system, policy, (2, 1)), (0, 1))
        self.assertEqual(surcharge_of(system, policy, (5, 3)), (0, 1))
        self.assertEqual(surcharge_of(system, policy, (8, 5)), (1, 5))

    def test_surcharges_of_the_requests_at_the_end(self):
        # Only windows that are not full switch, with look-ahead 2 for the last two requests.
        system = (((0, 5), (7, 0)), ((0, 0),), 0)
        policy = (2, (0, 1), ((1, 1, 0), (0, 1, 0)), 0)
        self.assertEqual(surcharge_of(system, policy, (0, 1)), (12, 1))
        self.assertEqual(surcharge_certificate(system, policy, (1, 1))[0], (12, 1))
        # The greatest surplus is that of a sequence with one request only: longer ones know better.
        policy = (2, (0, 1), ((1, 0, 0), (1, 0, 0)), 0)
        self.assertEqual(surcharge_of(system, policy, (0, 1)), (5, 1))
        offline = (((0, 5), (7, 0)), ((1, 1),), 0)
        self.assertEqual(surcharge_of(system, policy, (4, 1), offline=offline), (1, 1))
        self.assertEqual(surcharge_certificate(system, policy, (4, 1), offline=offline)[1], (0,))
        self.assertEqual(surcharge_of(system, policy, (5, 1), offline=offline), (0, 1))

    def test_all_sequences_of_a_few_requests(self):
        attained = zero = 0
        for system, policy, ratio, keywords, (surcharge, sequence, _) in certified_cases():
            base = base_of(system, keywords["offline"])
            p, q = ratio
            self.assertEqual(surcharge_of(system, policy, ratio, **keywords), surcharge)
            bound = exact.Fraction(*surcharge)
            greatest = 0
            for tried in slow.sequences_up_to(len(system[1]), 5 if len(system[1]) < 3 else 4):
                surplus = q * slow.cost_of_run(system, policy, tried)
                surplus -= p * slow.optimum_by_hand(base, tried, keywords["form"])
                greatest = max(greatest, surplus)
            self.assertLessEqual(greatest, q * bound)
            attained += greatest == q * bound
            zero += bound == 0
            cost = slow.cost_of_run(system, policy, sequence)
            optimal = slow.optimum_by_hand(base, sequence, keywords["form"])
            self.assertEqual(cost, exact.Fraction(p, q) * optimal + bound)
        self.assertGreater(attained, 100)
        self.assertGreater(zero, 10)

    def test_greater_fractions_have_no_greater_surcharge(self):
        for system, policy, offline, form in CASES:
            keywords = {"offline": offline, "form": form}
            ratio = ratio_of(system, policy, **keywords)
            found = [exact.Fraction(*surcharge_of(system, policy, r, **keywords)) for r in fitting_fractions(ratio)]
            self.assertEqual(found, sorted(found, reverse=True))

    def test_below_the_ratio(self):
        checked = 0
        for system, policy, offline, form in CASES:
            keywords = {"offline": offline, "form": form}
            ratio = ratio_of(system, policy, **keywords)
            for below in FRACTIONS:
                if slow.is_less(below, ratio):
                    for function in (surcharge_of, surcharge_certificate):
                        kept = ("ratio", ratio)
                        assert_error(self, BelowRatio, kept, function, system, policy, below, **keywords)
                    checked += 1
        self.assertGreater(checked, 50)

    def test_own_system_and_first_form_change_nothing(self):
        for system, policy, offline, _ in CASES:
            own = slow.first_form(system)
            for ratio in fitting_fractions(ratio_of(system, policy)):
                for function in (surcharge_of, surcharge_certificate):
                    expected = function(system, policy, ratio)
                    for keywords in ({"offline": system}, {"form": own}, {"form": own, "offline": system}):
                        self.assertEqual(function(system, policy, ratio, **keywords), expected)

    def test_errors(self):
        for function in (surcharge_of, surcharge_certificate):
            for ratio in NO_FRACTIONS:
                assert_error(self, InvalidNumber, ("value", ratio), function, A, MOVE, ratio)
                assert_error(self, InvalidNumber, ("value", ratio), function, TWO, turning(501, 1, 2), ratio)
                assert_error(self, InvalidPolicy, None, function, A, MOVE[:3], ratio)
                assert_error(self, InvalidWork, None, function, A, MOVE[:3], ratio, form=(0, 2))
                assert_error(self, InvalidOffline, None, function, A, 1, ratio, form=0, offline=ONE)
                assert_error(self, InvalidSystem, None, function, A[:2], 1, ratio, form=0, offline=ONE)
            for ratio in FRACTIONS:
                assert_error(self, TooLarge, ("limit", 1000), function, TWO, turning(501, 1, 2), ratio)


class TestSizes(unittest.TestCase):
    def test_thousand_positions_and_more(self):
        # In a chain of 1000 memories each step costs 1 more than the optimum; the last memory costs nothing more.
        states = (0,) + (1, 0) * 499 + (1,)
        policy = (0, states, tuple((min(m + 1, 999),) for m in range(1000)), 0)
        certificate = surcharge_certificate(ONE, policy, (0, 1))
        self.assertEqual(certificate[:2], ((999, 1), (0,) * 999))
        self.assertEqual(certificate[2], tuple(range(999, -1, -1)))
        self.assertTrue(is_surcharge_certificate(ONE, policy, (0, 1), certificate))
        offline = slide(50, 49)
        for function in (surcharge_of, surcharge_certificate):
            self.assertTrue(function(ONE, turning(901, 0, 1), (0, 1), offline=offline))
            assert_error(
                self, TooLarge, ("limit", 1000), function, ONE, turning(902, 0, 1), (0, 1), offline=offline
            )

    def test_lengths_of_the_sequence(self):
        # All sequences have the surplus 0, and the certificate may have any that is not too long.
        for lookahead in (0, 1, 2):
            policy = turning(1, lookahead, 1)
            for length in (0, 1, 2, 999, 1000, 1001, 1002, 1003, 1004, 1005):
                value = ((0, 1), (0,) * length, (0,))
                expected = length <= 1000 + 2 * lookahead
                self.assertIs(is_surcharge_certificate(ONE, policy, (1, 1), value), expected)

    def test_longest_sequences_that_are_needed(self):
        # A chain of 1000 memories, each step of which costs 1; the last steps of a run are made by finishing.
        states = (0,) + (1, 0) * 499 + (1,)
        for lookahead in (1, 2):
            row = lookahead + 1
            policy = (lookahead, states, tuple((min(m + 1, 999),) * row for m in range(1000)), 0)
            certificate = surcharge_certificate(ONE, policy, (0, 1))
            self.assertEqual(certificate[:2], ((999, 1), (0,) * 999))
            self.assertTrue(is_surcharge_certificate(ONE, policy, (0, 1), certificate))


class TestIsSurchargeCertificate(unittest.TestCase):
    def test_examples(self):
        found = [
            is_surcharge_certificate(A, MOVE, (1, 1), ((0, 1), (1,), (0, 0))),
            is_surcharge_certificate(A, MOVE, (1, 1), ((0, 1), (), (1, 0))),
        ]
        self.assertEqual(found, [True, False])

    def test_returned_ones(self):
        for system, policy, ratio, keywords, certificate in certified_cases():
            surcharge, sequence, allowances = certificate
            self.assertIs(is_surcharge_certificate(system, policy, ratio, certificate, **keywords), True)
            self.assertTrue(is_ratio(surcharge) and surcharge != (1, 0))
            edges, finishes = edges_and_finishes(system, policy, keywords)
            self.assertEqual(len(allowances), len(edges))
            self.assertTrue(slow.bounds_hold(edges, finishes, ratio, allowances))
            self.assertLessEqual(len(sequence), 1000 + 2 * policy[0])

    def accepted_by_hand(self, system, policy, ratio, keywords, value):
        base = base_of(system, keywords["offline"])
        surcharge, sequence, allowances = value
        edges, finishes = edges_and_finishes(system, policy, keywords)
        if len(allowances) != len(edges) or not slow.bounds_hold(edges, finishes, ratio, allowances):
            return False
        p, q = ratio

        def surplus(requests):
            optimal = slow.optimum_by_hand(base, requests, keywords["form"])
            return q * slow.cost_of_run(system, policy, requests) - p * optimal

        bounds = dict(zip(edges, allowances))
        greatest = [bounds[place] for place in slow.starts(system, base, policy, keywords["form"])]
        greatest += [surplus(requests) for requests in slow.sequences_up_to(len(system[1]), policy[0] - 1)]
        great = exact.Fraction(max(greatest), q)
        return great == exact.Fraction(*surcharge) == exact.Fraction(surplus(sequence), q)

    def test_changed_ones(self):
        found = {True: 0, False: 0}
        for at, (system, policy, ratio, keywords, certificate) in enumerate(certified_cases()):
            surcharge, sequence, allowances = certificate
            values = [((surcharge[0] + surcharge[1], surcharge[1]), sequence, allowances)]
            places = range(len(allowances)) if at % 7 == 0 else (0, len(allowances) - 1)
            for place in list(places)[:20]:
                for step in (-1, 1, 2):
                    changed = allowances[:place] + (allowances[place] + step,) + allowances[place + 1:]
                    values.append((surcharge, sequence, changed))
            values.append((surcharge, sequence, tuple(number + 1 for number in allowances)))
            values.append((surcharge, sequence, allowances[:-1]))
            values.append((surcharge, sequence, allowances + (0,)))
            values += [(surcharge, sequence + (request,), allowances) for request in range(len(system[1]))]
            values += [(surcharge, sequence[:-1], allowances), (surcharge, (), allowances)]
            for value in values:
                expected = self.accepted_by_hand(system, policy, ratio, keywords, value)
                found[expected] += 1
                self.assertIs(is_surcharge_certificate(system, policy, ratio, value, **keywords), expected)
        self.assertGreater(min(found.values()), 100)

    def test_greater_allowances_where_nothing_begins(self):
        # The allowance of the second position may be greater, that of the first one may not.
        self.assertIs(is_surcharge_certificate(T, MOVE, (4, 1), ((0, 1), (), (0,) * 6)), False)
        system = (((0, 2), (2, 0)), ((3, 3),), 0)
        policy = (0, (0, 1), ((1,), (1,)), 0)
        expected = {(2, 0): True, (2, 1): False, (3, 0): False, (1, 0): False, (2, -1): False}
        for allowances, accepted in expected.items():
            value = ((2, 1), (0, 0, 0), allowances)
            self.assertIs(is_surcharge_certificate(system, policy, (1, 1), value), accepted)
        # With the fraction (4, 3) an arrival at the second position is -3 and the first one 3 * 5 - 4 * 3 = 3.
        expected = {(3, 0): True, (3, -1): False, (4, 1): False, (4, 0): False, (2, 0): False}
        for allowances, accepted in expected.items():
            value = ((1, 1), (0,), allowances)
            self.assertIs(is_surcharge_certificate(system, policy, (4, 3), value), accepted)
        # With the fraction (2, 1) the first arrival is 5 - 6 = -1, so the second allowance may be 0 or 1.
        expected = {(0, 0): True, (0, 1): True, (0, 2): False, (1, 0): False, (0, -1): False, (-1, 0): False}
        for allowances, accepted in expected.items():
            value = ((0, 1), (), allowances)
            self.assertIs(is_surcharge_certificate(system, policy, (2, 1), value), accepted)

    def test_short_sequences_count_with_lookahead(self):
        system = (((0, 5), (7, 0)), ((0, 0),), 0)
        offline = (((0, 5), (7, 0)), ((1, 1),), 0)
        policy = (2, (0, 1), ((1, 0, 0), (1, 0, 0)), 0)
        surcharge, sequence, allowances = surcharge_certificate(system, policy, (4, 1), offline=offline)
        self.assertEqual((surcharge, sequence), ((1, 1), (0,)))
        self.assertLess(max(allowances), 1)
        for value, accepted in (
            ((surcharge, sequence, allowances), True), (((0, 1), (), allowances), False),
            ((surcharge, (), allowances), False), (((1, 1), (0,), (1,) * len(allowances)), True),
            (((1, 1), (0,), (2,) * len(allowances)), False), (((2, 1), (0,), (2,) * len(allowances)), False),
        ):
            self.assertIs(is_surcharge_certificate(system, policy, (4, 1), value, offline=offline), accepted)

    def test_ratio_of_the_policy_is_greater(self):
        for value in (((0, 1), (), (0, 0)), ((1, 1), (1,), (10**49, 10**49)), ((5, 1), (1, 1, 1), (5, 5)), None, 3):
            self.assertIs(is_surcharge_certificate(A, STAY, (3, 1), value), False)
            self.assertIs(is_surcharge_certificate(A, MOVE, (1, 2), value), False)

    def test_surcharge_in_lowest_terms(self):
        self.assertIs(is_surcharge_certificate(A, MOVE, (1, 1), ((0, 1), (), (0, 0))), True)
        for surcharge in ((0, 2), (1, 0), (0, 0), 0, None, (False, 1), (0, True), [0, 1], (0, 1, 1), "0/1"):
            self.assertIs(is_surcharge_certificate(A, MOVE, (1, 1), (surcharge, (), (0, 0))), False)

    def test_other_values(self):
        valid = ((0, 1), (1,), (0, 0))
        for value in (*ODD, *replacements(valid), list(valid), valid[:2], valid + (0,), ((0, 1), [1], (0, 0))):
            if repr(value) != repr(((0, 1), (), (0, 0))):
                self.assertIs(is_surcharge_certificate(A, MOVE, (1, 1), value), False, value)
        for value in (((0, 1), (2,), (0, 0)), ((0, 1), (True,), (0, 0)), ((0, 1), (1,), (0, False))):
            self.assertIs(is_surcharge_certificate(A, MOVE, (1, 1), value), False, value)

    def test_errors(self):
        for value in (((0, 1), (1,), (0, 0)), None, 3):
            for ratio in NO_FRACTIONS:
                assert_error(self, InvalidNumber, ("value", ratio), is_surcharge_certificate, A, MOVE, ratio, value)
                assert_error(self, InvalidPolicy, None, is_surcharge_certificate, A, MOVE[:3], ratio, value)
                assert_error(
                    self, InvalidWork, None, is_surcharge_certificate, A, MOVE[:3], ratio, value, form=(0, 2)
                )
                assert_error(
                    self, InvalidOffline, None, is_surcharge_certificate, A, 1, ratio, value, form=0, offline=ONE
                )
            for ratio in FRACTIONS:
                many = turning(501, 1, 2)
                assert_error(self, TooLarge, ("limit", 1000), is_surcharge_certificate, TWO, many, ratio, value)


if __name__ == "__main__":
    unittest.main()
