"""Stage 6: potentials, traps and ratio certificates, whoever made them."""

import random
import unittest

from hindcost.errors import (
    InvalidNumber, InvalidOffline, InvalidPolicy, InvalidSystem, InvalidWork, TooLarge,
)
from hindcost.ratios.certificates import is_potential, is_ratio_certificate, is_trap
from hindcost.ratios.ratios import ratio_certificate
from tests import slow
from tests.helpers import A, MOVE, ODD, ONE, STAY, T, TWO, assert_error, replacements, slide, turning

CASES = list(slow.random_cases(51, 90))
RATIOS = ((0, 1), (1, 0), (1, 1), (1, 2), (2, 1), (3, 2), (4, 1), (7, 3))
NO_RATIOS = (None, 1, (2, 4), (0, 0), (2, 0), (True, 1), (1, False), (1,), [1, 1], "1/1", (-1, 1), (1, 1, 1), {1: 1})


def base_of(system, offline):
    return system if offline is None else offline


def changed_numbers(value):
    """The tuple with one number one less or one more, or with one part less or more."""
    for at in range(len(value)):
        for step in (-1, 1):
            yield value[:at] + (value[at] + step,) + value[at + 1:]
    yield value[:-1]
    yield value + (value[-1],)


class TestIsPotential(unittest.TestCase):
    def test_examples(self):
        self.assertIs(is_potential(A, MOVE, (1, 1), (0, 0)), True)
        self.assertIs(is_potential(A, STAY, (1, 0), (0, 0)), False)

    def test_by_hand(self):
        found = {True: 0, False: 0}
        for system, policy, offline, form in CASES:
            keywords = {"offline": offline, "form": form}
            edges = slow.edges_by_hand(system, base_of(system, offline), policy, form)
            if len(edges) > 16:
                continue
            own, potential, _ = ratio_certificate(system, policy, **keywords)
            potential = (0,) * len(edges) if potential is None else potential
            for ratio in (own, (0, 1), (1, 0), (1, 1), (3, 2)):
                for value in (potential, *changed_numbers(potential), (3,) * len(edges)):
                    expected = len(value) == len(edges) and slow.potential_holds(edges, ratio, value)
                    expected = expected and ratio != (1, 0)
                    self.assertIs(is_potential(system, policy, ratio, value, **keywords), expected)
                    found[expected] += 1
        self.assertGreater(min(found.values()), 300)

    def test_shifted_and_scaled(self):
        for system, policy, offline, form in CASES:
            keywords = {"offline": offline, "form": form}
            ratio, potential, _ = ratio_certificate(system, policy, **keywords)
            if potential is not None:
                p, q = ratio
                for shift in (-10**49, -7, 1, 10**49):
                    shifted = tuple(number + shift for number in potential)
                    self.assertIs(is_potential(system, policy, ratio, shifted, **keywords), True)
                # With the same denominator the numbers serve for each greater ratio, too.
                self.assertIs(is_potential(system, policy, (p + q, q), potential, **keywords), True)

    def test_ratios_above_and_below(self):
        potentials = ((0, 0), (0, 3), (3, 0), (1, 2), (-5, 5))
        self.assertIs(is_potential(T, MOVE, (1, 1), (0,) * 6), False)
        for value in potentials:
            self.assertIs(is_potential(A, MOVE, (1, 2), value), False)
            self.assertIs(is_potential(A, MOVE, (1, 0), value), False)
        self.assertIs(is_potential(A, MOVE, (2, 1), (0, 0)), True)
        self.assertIs(is_potential(A, MOVE, (10**49, 1), (0, 0)), True)

    def test_a_wrong_order_of_the_positions(self):
        self.assertIs(is_potential(A, MOVE, (1, 1), (0, 0)), True)
        self.assertIs(is_potential(A, MOVE, (2, 1), (0, 1)), True)
        self.assertIs(is_potential(A, MOVE, (2, 1), (1, 0)), True)
        self.assertIs(is_potential(A, MOVE, (2, 1), (0, 2)), False)
        chain = (0, (0, 0, 1), ((1,), (2,), (2,)), 0)
        system = (((0, 9), (1, 0)), ((0, 0),), 0)
        self.assertIs(is_potential(system, chain, (0, 1), (9, 9, 0)), True)
        self.assertIs(is_potential(system, chain, (0, 1), (0, 9, 9)), False)

    def test_other_values(self):
        for value in (*ODD, *replacements((0, 0)), [0, 0], (0,), (0, 0, 0), (0, False), "00", {0: 0, 1: 0}):
            self.assertIs(is_potential(A, MOVE, (1, 1), value), False, value)

    def test_errors(self):
        many = turning(501, 1, 2)
        for value in ((0, 0), None, [1]):
            for ratio in NO_RATIOS:
                assert_error(self, InvalidNumber, ("value", ratio), is_potential, A, MOVE, ratio, value)
                assert_error(self, InvalidNumber, ("value", ratio), is_potential, TWO, many, ratio, value)
                assert_error(self, InvalidPolicy, None, is_potential, A, MOVE[:3], ratio, value)
                assert_error(self, InvalidWork, None, is_potential, A, MOVE[:3], ratio, value, form=0)
                assert_error(self, InvalidOffline, None, is_potential, A, 1, ratio, value, form=0, offline=ONE)
                assert_error(self, InvalidSystem, None, is_potential, A[:2], 1, ratio, value, form=0, offline=ONE)
            for ratio in RATIOS:
                assert_error(self, TooLarge, ("limit", 1000), is_potential, TWO, many, ratio, value)


class TestIsTrap(unittest.TestCase):
    def test_examples(self):
        self.assertIs(is_trap(A, MOVE, (1, 1), ((), (1, 0))), True)
        self.assertIs(is_trap(A, STAY, (1, 0), ((1,), (1,))), True)

    def test_all_short_ones_by_hand(self):
        found = {True: 0, False: 0}
        for system, policy, offline, form in CASES:
            base = base_of(system, offline)
            edges = slow.edges_by_hand(system, base, policy, form)
            first = (policy[3], slow.first_form(base) if form is None else form)
            ratios = set(RATIOS) | {ratio_certificate(system, policy, offline=offline, form=form)[0]}
            requests = len(system[1])
            for prefix in slow.sequences_up_to(requests, 2):
                for loop in slow.sequences_up_to(requests, 2):
                    for ratio in ratios:
                        value = (prefix, loop)
                        expected = len(prefix) >= policy[0] and slow.trap_holds(edges, first, policy[0], ratio, value)
                        found[expected] += 1
                        self.assertIs(
                            is_trap(system, policy, ratio, value, offline=offline, form=form), expected,
                            (system, policy, ratio, value, offline, form),
                        )
        self.assertGreater(min(found.values()), 100)

    def test_loops_begun_elsewhere_or_repeated(self):
        checked = 0
        for system, policy, offline, form in CASES:
            keywords = {"offline": offline, "form": form}
            ratio, _, trap = ratio_certificate(system, policy, **keywords)
            if trap is None:
                continue
            prefix, loop = trap
            self.assertIs(is_trap(system, policy, ratio, trap, **keywords), True)
            for at in range(len(loop)):
                turned = (prefix + loop[:at], loop[at:] + loop[:at])
                self.assertIs(is_trap(system, policy, ratio, turned, **keywords), True)
            for times in (2, 3):
                self.assertIs(is_trap(system, policy, ratio, (prefix + loop, loop * times), **keywords), True)
                checked += 1
            self.assertIs(is_trap(system, policy, ratio, (prefix, ()), **keywords), False)
        self.assertGreater(checked, 50)

    def test_none_for_zero_and_none_for_a_greater_ratio(self):
        # The loop costs nothing and gains nothing, or gains something.
        self.assertIs(is_trap(TWO, turning(1, 0, 2), (0, 1), ((), (0,))), False)
        paying = (TWO[0], ((1, 1), (1, 1)), 0)
        self.assertIs(is_trap(TWO, turning(1, 0, 2), (0, 1), ((), (0,)), offline=paying), False)
        for ratio in ((1, 1), (1, 0), (2, 1)):
            self.assertIs(is_trap(TWO, turning(1, 0, 2), ratio, ((), (0,))), False)
        self.assertIs(is_trap(A, MOVE, (2, 1), ((), (1, 0))), False)
        self.assertIs(is_trap(A, MOVE, (1, 2), ((), (1, 0))), False)
        self.assertIs(is_trap(A, MOVE, (1, 0), ((), (1, 0))), False)

    def test_smaller_ratios_may_have_traps(self):
        # Staying is best for request 0; many requests 1 lead to a form in which it costs twice the optimum.
        system = (((0, 4), (4, 0)), ((1, 1), (2, 1)), 0)
        self.assertIs(is_trap(system, STAY, (1, 1), ((), (0,))), True)
        self.assertIs(is_trap(system, STAY, (2, 1), ((1,) * 8, (1,))), True)
        self.assertIs(is_trap(system, STAY, (2, 1), ((1,) * 7, (1,))), False)
        self.assertEqual(ratio_certificate(system, STAY)[0], (2, 1))

    def test_bounds_of_the_lengths(self):
        for lookahead in (0, 1, 2):
            policy = turning(1, lookahead, 1)
            system = (ONE[0], ((1, 1),), 0)
            for length in (0, 1, 2, 3, 999, 1000, 1001, 1002, 1003):
                expected = lookahead <= length <= 1000 + lookahead
                self.assertIs(is_trap(system, policy, (1, 1), ((0,) * length, (0,))), expected)
            for length in (0, 1, 2, 999, 1000, 1001, 2000):
                expected = 1 <= length <= 1000
                self.assertIs(is_trap(system, policy, (1, 1), ((0,) * lookahead, (0,) * length)), expected)
            self.assertIs(is_trap(system, policy, (1, 1), ((0,) * (1000 + lookahead), (0,) * 1000)), True)

    def test_pending_requests_are_part_of_the_position(self):
        # With one request pending, a loop leads back only if it ends with the request that was pending.
        policy = turning(1, 1, 2)
        system = (TWO[0], ((1, 1), (1, 1)), 0)
        self.assertIs(is_trap(system, policy, (1, 1), ((0,), (1, 0))), True)
        self.assertIs(is_trap(system, policy, (1, 1), ((0,), (0, 1))), False)
        self.assertIs(is_trap(system, policy, (1, 1), ((0, 1), (0, 1))), True)

    def test_form_to_begin_with(self):
        self.assertIs(is_trap(A, STAY, (1, 0), ((), (1,))), False)
        self.assertIs(is_trap(A, STAY, (1, 0), ((), (1,)), form=(1, 0)), True)
        self.assertIs(is_trap(A, STAY, (1, 0), ((), (1,)), form=(0, 1)), False)

    def test_other_values(self):
        valid = ((1,), (1,))
        for value in (*ODD, *replacements(valid), list(valid), valid + ((),), ((1,), [1]), ((2,), (1,)), ((1,), (2,))):
            self.assertIs(is_trap(A, STAY, (1, 0), value), False, value)

    def test_no_limit_of_positions(self):
        system = (ONE[0], ((1, 1),), 0)
        self.assertIs(is_trap(system, turning(1000, 0, 1), (1, 1), ((), (0,) * 1000)), True)
        self.assertIs(is_trap(system, turning(1000, 0, 1), (1, 1), ((), (0,) * 999)), False)
        # 501 memories with two requests known are more than 1000 positions, and still there is a trap.
        paying = (TWO[0], ((1, 1), (1, 1)), 0)
        self.assertIs(is_trap(paying, turning(501, 1, 2), (1, 1), ((0,), (0,) * 501)), True)
        self.assertIs(is_trap(paying, turning(501, 1, 2), (1, 1), ((0,), (0,) * 500)), False)

    def test_errors(self):
        for value in (((), (1,)), None, [1]):
            for ratio in NO_RATIOS:
                assert_error(self, InvalidNumber, ("value", ratio), is_trap, A, MOVE, ratio, value)
                assert_error(self, InvalidPolicy, None, is_trap, A, MOVE[:3], ratio, value)
                assert_error(self, InvalidWork, None, is_trap, A, MOVE[:3], ratio, value, form=(0, 2))
                assert_error(self, InvalidOffline, None, is_trap, A, 1, ratio, value, form=0, offline=ONE)
                assert_error(self, InvalidSystem, None, is_trap, A[:2], 1, ratio, value, form=0, offline=ONE)


class TestIsRatioCertificate(unittest.TestCase):
    def test_returned_ones_and_changed_ones(self):
        kinds = set()
        for system, policy, offline, form in CASES:
            keywords = {"offline": offline, "form": form}
            edges = slow.edges_by_hand(system, base_of(system, offline), policy, form)
            certificate = ratio_certificate(system, policy, **keywords)
            ratio, potential, trap = certificate
            kinds.add((policy[0], ratio if ratio in ((0, 1), (1, 0)) else "fraction"))
            self.assertIs(is_ratio_certificate(system, policy, certificate, **keywords), True)
            self.assertEqual(potential is None, ratio == (1, 0))
            self.assertEqual(trap is None, ratio == (0, 1))
            if trap is not None:
                self.assertLessEqual(len(trap[0]), 1000 + policy[0])
                self.assertLessEqual(1, len(trap[1]))
                self.assertLessEqual(len(trap[1]), len(edges))
            for other in RATIOS:
                if other != ratio:
                    self.assertIs(is_ratio_certificate(system, policy, (other, potential, trap), **keywords), False)
            if potential is not None:
                for value in list(changed_numbers(potential))[:40]:
                    expected = len(value) == len(edges) and slow.potential_holds(edges, ratio, value)
                    self.assertIs(is_ratio_certificate(system, policy, (ratio, value, trap), **keywords), expected)
            self.assertIs(is_ratio_certificate(system, policy, (ratio, None, None), **keywords), False)
        self.assertEqual(len(kinds), 9)

    def test_changed_loops(self):
        rng = random.Random(52)
        for system, policy, offline, form in CASES:
            keywords = {"offline": offline, "form": form}
            ratio, potential, trap = ratio_certificate(system, policy, **keywords)
            if trap is None:
                continue
            prefix, loop = trap
            for _ in range(5):
                at = rng.randrange(len(loop))
                other = loop[:at] + (rng.randrange(len(system[1])),) + loop[at + 1:]
                expected = is_trap(system, policy, ratio, (prefix, other), **keywords)
                value = (ratio, potential, (prefix, other))
                self.assertIs(is_ratio_certificate(system, policy, value, **keywords), expected)
            # A loop without its last request does not lead back, since the loop passes no position twice.
            for other in ((prefix, loop[:-1]), (prefix, loop + loop[:1]), None):
                if len(loop) > 1 or other is None:
                    self.assertIs(is_ratio_certificate(system, policy, (ratio, potential, other), **keywords), False)

    def test_other_ones_by_others(self):
        self.assertIs(is_ratio_certificate(A, MOVE, ((1, 1), (5, 5), ((1,), (0, 1, 0, 1)))), True)
        self.assertIs(is_ratio_certificate(A, STAY, ((1, 0), None, ((0, 1, 1), (1, 1, 1)))), True)
        self.assertIs(is_ratio_certificate(TWO, STAY, ((0, 1), (-3,), None)), True)
        self.assertIs(is_ratio_certificate(TWO, STAY, ((0, 1), (-3,), ((), (0,)))), False)
        self.assertIs(is_ratio_certificate(TWO, STAY, ((0, 1), None, None)), False)
        self.assertIs(is_ratio_certificate(A, STAY, ((1, 0), (0, 0), ((1,), (1,)))), False)
        # A potential for a greater ratio, and a trap for a smaller one, are no certificate.
        self.assertIs(is_ratio_certificate(A, MOVE, ((2, 1), (0, 0), ((), (1, 0)))), False)
        self.assertIs(is_ratio_certificate(A, MOVE, ((1, 1), (0, 0), None)), False)

    def test_other_values(self):
        valid = ((1, 1), (0, 0), ((), (1, 0)))
        self.assertIs(is_ratio_certificate(A, MOVE, valid), True)
        for value in (*ODD, *replacements(valid), list(valid), valid[:2], valid + (None,)):
            if repr(value) != repr(valid):
                self.assertIs(is_ratio_certificate(A, MOVE, value), False, value)
        valid = ((1, 0), None, ((1,), (1,)))
        for value in (*replacements(valid), list(valid), ((True, False), None, ((1,), (1,)))):
            if repr(value) != repr(valid):
                self.assertIs(is_ratio_certificate(A, STAY, value), False, value)

    def test_thousand_positions_and_more(self):
        system = (ONE[0], ((1, 1),), 0)
        value = ((1, 1), (0,) * 1000, ((), (0,) * 1000))
        self.assertIs(is_ratio_certificate(system, turning(1000, 0, 1), value), True)
        self.assertIs(is_ratio_certificate(system, turning(999, 0, 1), value), False)
        offline = slide(50, 49)
        for value in (None, value, ((1, 1), (0,) * 1001, ((), (0,)))):
            assert_error(
                self, TooLarge, ("limit", 1000), is_ratio_certificate, ONE, turning(902, 0, 1), value, offline=offline
            )
            assert_error(self, TooLarge, ("limit", 1000), is_ratio_certificate, TWO, turning(251, 2, 2), value)

    def test_errors(self):
        for value in (None, 3, ((1, 1), (0, 0), ((), (1, 0)))):
            assert_error(self, InvalidPolicy, None, is_ratio_certificate, A, MOVE[:3], value)
            assert_error(self, InvalidWork, None, is_ratio_certificate, A, MOVE[:3], value, form=(0, 2))
            assert_error(self, InvalidOffline, None, is_ratio_certificate, A, 1, value, form=0, offline=ONE)
            assert_error(self, InvalidSystem, None, is_ratio_certificate, A[:2], 1, value, form=0, offline=ONE)


if __name__ == "__main__":
    unittest.main()
