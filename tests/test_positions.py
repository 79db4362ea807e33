"""Stage 5: positions, arrivals and finishing."""

import random
import unittest

from hindcost.errors import (
    InvalidOffline, InvalidPolicy, InvalidPosition, InvalidSequence, InvalidSystem, InvalidWork, TooLarge,
    UnknownRequest,
)
from hindcost.policies.runs import run_cost
from hindcost.ratios import positions
from hindcost.ratios.positions import (
    arrive, finish, first_positions, is_position, position_after, reachable_positions,
)
from hindcost.schedules.schedules import optimum
from hindcost.systems.systems import is_system, request_count
from tests import slow
from tests.helpers import (
    A, EIGHT, MOVE, ODD, ONE, STAY, T, TWO, assert_error, product_of, replacements, slide, turning, window_count,
)

CASES = list(slow.random_cases(31, 60))
# Three states and another start, but as many requests as A.
WIDE = (((0, 2, 3), (2, 0, 1), (3, 1, 0)), ((1, 0, 4), (None, 3, 0)), 2)


def base_of(system, offline):
    return system if offline is None else offline


class TestFirstPositions(unittest.TestCase):
    def test_example(self):
        self.assertEqual(first_positions(A, MOVE), ((0, (0, 1), ()),))
        self.assertEqual(positions.MAX_POSITIONS, 1000)

    def test_pending_is_any_tuple(self):
        still = (1, (1, 0), ((1,) * 6, (1,) * 6), 1)
        self.assertEqual(first_positions(A, still), ((1, (0, 1), (0,)), (1, (0, 1), (1,))))
        still = (2, (0,), ((0,) * 14,), 0)
        pending = ((0, 0), (0, 1), (1, 0), (1, 1))
        self.assertEqual(first_positions(TWO, still), tuple((0, (0, 1), known) for known in pending))
        self.assertEqual(len(first_positions(EIGHT, turning(1, 2, 8))), 64)

    def test_form_of_the_offline_system(self):
        self.assertEqual(first_positions(A, MOVE, offline=WIDE), ((0, (3, 1, 0), ()),))
        self.assertEqual(first_positions(A, MOVE, offline=WIDE, form=(2, 0, 1)), ((0, (2, 0, 1), ()),))
        self.assertEqual(first_positions(A, MOVE, form=(0, 0)), ((0, (0, 0), ()),))

    def test_by_hand(self):
        for system, policy, offline, form in CASES:
            found = first_positions(system, policy, offline=offline, form=form)
            self.assertEqual(found, tuple(slow.starts(system, base_of(system, offline), policy, form)))
            self.assertEqual(found, tuple(sorted(set(found))))


class TestIsPosition(unittest.TestCase):
    def test_forms_that_are_not_reachable(self):
        for form in ((0, 0), (0, 1), (1, 0)):
            for memory in (0, 1):
                self.assertIs(is_position(A, MOVE, (memory, form, ())), True)
        for value in ((2, (0, 1), ()), (-1, (0, 1), ()), (0, (0, 2), ()), (0, (1, 1), ()), (0, (0, 1), (0,))):
            self.assertIs(is_position(A, MOVE, value), False, value)

    def test_forms_of_the_offline_system(self):
        self.assertIs(is_position(A, MOVE, (0, (3, 1, 0), ()), offline=WIDE), True)
        self.assertIs(is_position(A, MOVE, (0, (0, 1), ()), offline=WIDE), False)
        self.assertIs(is_position(A, MOVE, (0, (3, 1, 0), ())), False)
        self.assertIs(is_position(A, MOVE, (0, (0, 2), ()), offline=T), True)

    def test_number_of_pending_requests(self):
        for lookahead in (0, 1, 2):
            policy = turning(2, lookahead, 2)
            for length in range(4):
                for pending in product_of(3, length):
                    expected = length == lookahead and 2 not in pending
                    self.assertIs(is_position(TWO, policy, (1, (0, 1), pending)), expected)

    def test_other_values(self):
        policy = turning(2, 1, 2)
        valid = (1, (0, 1), (0,))
        self.assertIs(is_position(TWO, policy, valid), True)
        for value in (*ODD, *replacements(valid), list(valid), valid + (0,), valid[:2], (1, [0, 1], (0,))):
            self.assertIs(is_position(TWO, policy, value), False, value)


class TestArriveAndFinish(unittest.TestCase):
    def test_examples(self):
        self.assertEqual(arrive(A, MOVE, (0, (0, 1), ()), 1), ((1, (1, 0), ()), 1, 1))
        self.assertEqual([position_after(A, STAY, (1, 1)), finish(A, STAY, (0, (1, 0), ()))], [(0, (1, 0), ()), (0, 0)])

    def test_cost_is_that_of_the_served_request(self):
        # Request 0 is pending and cheap in state 0; the arriving request 1 only decides about the memory.
        policy = (1, (0, 1), ((0, 1, 0, 1, 0, 1), (0, 1, 0, 1, 0, 1)), 0)
        self.assertEqual(arrive(A, policy, (0, (0, 1), (0,)), 1), ((1, (0, 1), (1,)), 3, 0))
        self.assertEqual(arrive(A, policy, (0, (0, 1), (0,)), 0), ((0, (0, 1), (0,)), 0, 0))
        self.assertEqual(finish(A, policy, (0, (0, 1), (1,))), (1, 1))

    def test_costs_of_the_system_and_increases_of_the_offline_system(self):
        self.assertEqual(arrive(A, MOVE, (0, (3, 1, 0), ()), 1, offline=WIDE), ((1, (3, 1, 0), ()), 1, 0))
        self.assertEqual(arrive(A, MOVE, (0, (3, 1, 0), ()), 0, offline=WIDE), ((0, (2, 0, 1), ()), 0, 1))

    def test_by_hand_at_all_positions(self):
        for system, policy, offline, _ in CASES:
            base = base_of(system, offline)
            for form in list(slow.all_forms(base, 2))[:6]:
                for memory in range(len(policy[1])):
                    for pending in product_of(len(system[1]), policy[0]):
                        place = (memory, form, pending)
                        self.assertTrue(is_position(system, policy, place, offline=offline))
                        expected = slow.finishing(system, base, policy, place)
                        self.assertEqual(finish(system, policy, place, offline=offline), expected)
                        for request in range(len(system[1])):
                            expected = slow.arrival(system, base, policy, place, request)
                            self.assertEqual(arrive(system, policy, place, request, offline=offline), expected)

    def test_sums_of_a_run(self):
        for system, policy, offline, _ in CASES:
            base = base_of(system, offline)
            lookahead = policy[0]
            for sequence in slow.sequences_up_to(len(system[1]), 4):
                if len(sequence) < lookahead:
                    continue
                place = position_after(system, policy, sequence[:lookahead], offline=offline)
                self.assertIn(place, first_positions(system, policy, offline=offline))
                costs = increases = 0
                for request in sequence[lookahead:]:
                    place, cost, increase = arrive(system, policy, place, request, offline=offline)
                    costs, increases = costs + cost, increases + increase
                self.assertEqual(position_after(system, policy, sequence, offline=offline), place)
                last_costs, last_increases = finish(system, policy, place, offline=offline)
                self.assertEqual(costs + last_costs, run_cost(system, policy, sequence))
                self.assertEqual(increases + last_increases, optimum(base, sequence))

    def test_errors_of_arrive(self):
        policy = turning(2, 1, 2)
        place = (1, (0, 1), (0,))
        for value in (*ODD, *replacements(place), list(place), (2, (0, 1), (0,)), (1, (0, 1), ()), (1, (0, 2), (0,))):
            assert_error(self, InvalidPosition, None, arrive, TWO, policy, value, 0)
            assert_error(self, InvalidPosition, None, arrive, TWO, policy, value, 2)
            assert_error(self, InvalidPosition, None, finish, TWO, policy, value)
            assert_error(self, InvalidPolicy, None, arrive, TWO, policy[:3], value, 2)
        for request in ODD + (2, -1, (0,)):
            assert_error(self, UnknownRequest, ("request", request), arrive, TWO, policy, place, request)
        assert_error(self, InvalidPosition, None, arrive, A, MOVE, (0, (0, 1), ()), 0, offline=WIDE)
        assert_error(self, InvalidPosition, None, finish, A, MOVE, (0, (3, 1, 0), ()))


class TestPositionAfter(unittest.TestCase):
    def test_by_hand(self):
        for system, policy, offline, form in CASES:
            base = base_of(system, offline)
            lookahead = policy[0]
            for sequence in slow.sequences_up_to(len(system[1]), 4):
                if len(sequence) < lookahead:
                    with self.assertRaises(InvalidSequence):
                        position_after(system, policy, sequence, offline=offline, form=form)
                    continue
                begin = slow.first_form(base) if form is None else form
                place = (policy[3], begin, sequence[:lookahead])
                for request in sequence[lookahead:]:
                    place = slow.arrival(system, base, policy, place, request)[0]
                self.assertEqual(position_after(system, policy, sequence, offline=offline, form=form), place)

    def test_fewer_requests_than_the_lookahead(self):
        for lookahead in (0, 1, 2):
            for length in range(4):
                sequence = (1,) * length
                if length < lookahead:
                    assert_error(self, InvalidSequence, None, position_after, TWO, turning(3, lookahead, 2), sequence)
                else:
                    expected = ((length - lookahead) % 3, (0, 1), (1,) * lookahead)
                    self.assertEqual(position_after(TWO, turning(3, lookahead, 2), sequence), expected)

    def test_longest_sequence(self):
        self.assertEqual(position_after(ONE, turning(7, 0, 1), (0,) * 400), (400 % 7, (0, 1), ()))
        self.assertEqual(position_after(ONE, turning(7, 2, 1), (0,) * 400), (398 % 7, (0, 1), (0, 0)))
        assert_error(self, InvalidSequence, None, position_after, ONE, turning(7, 0, 1), (0,) * 401)

    def test_other_sequences(self):
        for value in ODD + ([1], (2,), (True,), ((0,),)):
            if value != ():
                assert_error(self, InvalidSequence, None, position_after, A, MOVE, value)


class TestReachablePositions(unittest.TestCase):
    def test_example(self):
        self.assertEqual(reachable_positions(A, STAY), ((0, (0, 1), ()), (0, (1, 0), ())))

    def test_by_hand(self):
        for system, policy, offline, form in CASES:
            found = reachable_positions(system, policy, offline=offline, form=form)
            self.assertEqual(found, slow.positions_by_hand(system, base_of(system, offline), policy, form))

    def test_own_system_and_first_form_change_nothing(self):
        for system, policy, offline, _ in CASES:
            own = slow.first_form(system)
            expected = reachable_positions(system, policy)
            for keywords in ({"offline": system}, {"form": own}, {"form": own, "offline": system}, {"form": None}):
                self.assertEqual(reachable_positions(system, policy, **keywords), expected)
                self.assertEqual(
                    first_positions(system, policy, **keywords), first_positions(system, policy)
                )
            if offline is not None:
                expected = reachable_positions(system, policy, offline=offline)
                begin = slow.first_form(offline)
                self.assertEqual(reachable_positions(system, policy, form=begin, offline=offline), expected)

    def test_windows_that_are_not_full_reach_nothing(self):
        policy = (1, (0, 1), ((1, 1, 0, 0, 0, 0), (1, 1, 0, 0, 0, 0)), 0)
        self.assertEqual([place[0] for place in reachable_positions(TWO, policy)], [0, 0])

    def test_thousand_positions_and_more(self):
        self.assertEqual(len(reachable_positions(ONE, turning(1000, 0, 1))), 1000)
        for lookahead, fits, more in ((1, 500, 501), (2, 250, 251)):
            self.assertEqual(len(reachable_positions(TWO, turning(fits, lookahead, 2))), 1000)
            assert_error(self, TooLarge, ("limit", 1000), reachable_positions, TWO, turning(more, lookahead, 2))

    def test_forms_count_too(self):
        # 100 forms one after the other; in the last form all memories of the ring are reached.
        offline = slide(50, 49)
        self.assertEqual(len(reachable_positions(ONE, turning(901, 0, 1), offline=offline)), 1000)
        assert_error(
            self, TooLarge, ("limit", 1000), reachable_positions, ONE, turning(902, 0, 1), offline=offline
        )
        # Beginning with a later form leaves fewer of them.
        keywords = {"offline": offline, "form": (48, 0)}
        self.assertEqual(len(reachable_positions(ONE, turning(999, 0, 1), **keywords)), 1000)
        assert_error(self, TooLarge, ("limit", 1000), reachable_positions, ONE, turning(1000, 0, 1), **keywords)

    def test_largest_window_tables(self):
        rng = random.Random(32)
        row = window_count(8, 2)
        policy = (2, (0, 1) * 15, tuple(tuple(rng.randrange(30) for _ in range(row)) for _ in range(30)), 0)
        assert_error(self, TooLarge, ("limit", 1000), reachable_positions, EIGHT, policy)
        self.assertEqual(len(reachable_positions(EIGHT, turning(15, 2, 8))), 960)

    def test_errors(self):
        for function in (first_positions, reachable_positions):
            for value in (*ODD, *replacements(T), list(T), TWO[:2], (T[0], T[1] * 2, 0), ONE, (T[0], T[1], 2)):
                # With None in the place of a cost it is a system still.
                if value is not None and not (is_system(value) and request_count(value) == 2):
                    assert_error(self, InvalidOffline, None, function, A, MOVE, offline=value)
                    assert_error(self, InvalidOffline, None, function, A, MOVE[:3], offline=value, form=0)
            for value in (*ODD, (0, 2), (1, 1), (0,), (0, 1, 1), (2, 1), [0, 1], (0, True), (-1, 0)):
                if value is not None:
                    assert_error(self, InvalidWork, None, function, A, MOVE, form=value)
                    assert_error(self, InvalidWork, None, function, A, MOVE[:3], form=value)
            # The form is one of the offline system.
            assert_error(self, InvalidWork, None, function, A, MOVE, form=(0, 1), offline=WIDE)
            assert_error(self, InvalidWork, None, function, A, MOVE, form=(3, 1, 0))
            assert_error(self, InvalidWork, None, function, A, MOVE, form=(0, 2))
            self.assertTrue(function(A, MOVE, form=(0, 2), offline=T))
            assert_error(self, InvalidSystem, None, function, A[:2], MOVE, form=(0, 2), offline=1)


if __name__ == "__main__":
    unittest.main()
