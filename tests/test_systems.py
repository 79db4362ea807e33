"""[1.1], [1.2], [1.3]: systems, requests and sequences."""

import unittest

from hindcost.errors import InvalidSystem, UnknownRequest, UnknownState
from hindcost.systems import systems
from hindcost.systems.systems import (
    allowed_states, is_sequence, is_system, request_cost, request_count, state_count, switching_cost,
)
from tests.helpers import A, ODD, T, UNEVEN, assert_error, random_systems, replacements


def flat(size, cost=1):
    return tuple(tuple(0 if s == t else cost for t in range(size)) for s in range(size))


def plain(size, requests=1, start=0):
    return (flat(size), ((0,) * size,) * requests, start)


class TestIsSystem(unittest.TestCase):
    def test_constants(self):
        found = (systems.MAX_STATES, systems.MAX_REQUESTS, systems.MAX_COST, systems.MAX_LENGTH)
        self.assertEqual(found, (10, 8, 1000, 400))

    def test_examples(self):
        found = [is_system(A), is_system((A[0], A[1], 2)), is_system((((0, 5), (1, 0)), ((None, None),), 0))]
        self.assertEqual(found, [True, False, False])
        self.assertIs(is_system(T), True)
        self.assertIs(is_system(UNEVEN), True)

    def test_number_of_states(self):
        for size in range(1, 13):
            self.assertIs(is_system(plain(size)), 2 <= size <= 10, size)
        self.assertIs(is_system(((), ((),), 0)), False)

    def test_number_of_requests(self):
        for requests in range(0, 11):
            self.assertIs(is_system(plain(3, requests)), 1 <= requests <= 8, requests)

    def test_start_is_a_state(self):
        for start in range(-2, 6):
            self.assertIs(is_system(plain(3, 1, start)), 0 <= start <= 2, start)
        for start in ODD:
            self.assertIs(is_system(plain(3, 1, start)), False, start)

    def test_switching_costs(self):
        for cost in (-1, 0, 1, 2, 999, 1000, 1001, 10**49):
            for table in (((0, cost), (1000, 0)), ((0, 1000), (cost, 0))):
                self.assertIs(is_system((table, ((0, 0),), 0)), 1 <= cost <= 1000, table)

    def test_switching_to_the_same_state_costs_nothing(self):
        for cost in (-1, 1, 2, 1000, None, False):
            for table in (((cost, 1), (1, 0)), ((0, 1), (1, cost))):
                self.assertIs(is_system((table, ((0, 0),), 0)), False, table)

    def test_table_need_not_be_symmetric(self):
        self.assertIs(is_system((((0, 1000), (1, 0)), ((0, 0),), 0)), True)

    def test_way_over_another_state(self):
        # The way from 0 over 1 to 2 costs 5.
        for direct in range(1, 9):
            table = ((0, 2, direct), (9, 0, 3), (9, 9, 0))
            self.assertIs(is_system((table, ((0, 0, 0),), 0)), direct <= 5, direct)

    def test_way_over_another_state_at_each_place(self):
        order = (0, 1, 2)
        for first in order:
            for between in order:
                for last in order:
                    if len({first, between, last}) == 3:
                        table = [[0 if s == t else 10 for t in order] for s in order]
                        table[first][between], table[between][last] = 6, 6
                        for direct in (12, 13):
                            table[first][last] = direct
                            value = (tuple(map(tuple, table)), ((0, 0, 0),), 0)
                            self.assertIs(is_system(value), direct == 12, value)

    def test_longest_table_with_one_short_way(self):
        table = [list(row) for row in flat(10, 500)]
        table[9][8] = 1000
        self.assertIs(is_system((tuple(map(tuple, table)), ((0,) * 10,), 9)), True)
        table[9][0] = 499
        self.assertIs(is_system((tuple(map(tuple, table)), ((0,) * 10,), 9)), False)

    def test_request_costs(self):
        for cost in (-1, 0, 1, 999, 1000, 1001, 10**49, -(10**49)):
            self.assertIs(is_system((flat(2), ((0, 0), (cost, 0)), 0)), 0 <= cost <= 1000, cost)
            self.assertIs(is_system((flat(2), ((None, cost),), 0)), 0 <= cost <= 1000, cost)

    def test_some_state_is_allowed(self):
        self.assertIs(is_system((flat(3), ((None, None, 0),), 0)), True)
        self.assertIs(is_system((flat(3), ((None, None, None),), 0)), False)
        self.assertIs(is_system((flat(3), ((0, 0, 0), (None, None, None)), 0)), False)

    def test_length_of_rows(self):
        for row in ((), (0,), (0, 0), (0, 0, 0, 0)):
            self.assertIs(is_system((flat(3), (row,), 0)), False, row)
        self.assertIs(is_system((((0, 1, 1), (1, 0), (1, 1, 0)), ((0, 0, 0),), 0)), False)
        self.assertIs(is_system((((0, 1, 1), (1, 0, 1)), ((0, 0),), 0)), False)

    def test_number_of_parts(self):
        for value in (A[:2], A + (0,), A[:1], A + ((),)):
            self.assertIs(is_system(value), False, value)

    def test_other_kinds(self):
        for value in ODD + (list(A), [list(A[0]), A[1], 0], {"switching": A[0]}, (A,), [A]):
            self.assertIs(is_system(value), False, value)

    def test_some_part_of_another_kind(self):
        # None in the place of one request cost is a state that is not allowed.
        odd = tuple(value for value in ODD if value is not None)
        for system in (A, UNEVEN):
            for value in replacements(system, odd):
                self.assertIs(is_system(value), False, value)
        for value in replacements(A[:1], (None,)):
            self.assertIs(is_system(value + A[1:]), False, value)
        for value in ((None, A[1], 0), (A[0], None, 0), (A[0], (None, (2, 0)), 0), (A[0], A[1], None)):
            self.assertIs(is_system(value), False, value)

    def test_random_systems(self):
        for system in random_systems(1, 60):
            self.assertIs(is_system(system), True, system)


class TestCountsAndCosts(unittest.TestCase):
    def test_examples(self):
        self.assertEqual((state_count(A), request_count(A)), (2, 2))
        self.assertEqual(switching_cost(A, 0, 1), 1)
        other = (A[0], ((None, 4),), 0)
        self.assertEqual([request_cost(A, 1, 0), request_cost(other, 0, 0)], [2, None])
        self.assertEqual([allowed_states(A, 0), allowed_states(other, 0)], [(0, 1), (1,)])

    def test_counts_differ(self):
        self.assertEqual((state_count(plain(10, 8)), request_count(plain(10, 8))), (10, 8))
        self.assertEqual((state_count(plain(2, 1)), request_count(plain(2, 1))), (2, 1))
        self.assertEqual((state_count(plain(3, 5)), request_count(plain(3, 5))), (3, 5))

    def test_all_entries(self):
        for system in [A, T, UNEVEN, plain(10, 8)] + random_systems(2, 30):
            switching, requests, _ = system
            for s in range(len(switching)):
                for t in range(len(switching)):
                    self.assertEqual(switching_cost(system, s, t), switching[s][t])
                for request, costs in enumerate(requests):
                    self.assertEqual(request_cost(system, request, s), costs[s])

    def test_direction_of_switching(self):
        self.assertEqual((switching_cost(UNEVEN, 0, 2), switching_cost(UNEVEN, 2, 0)), (5, 4))

    def test_allowed_states(self):
        self.assertEqual([allowed_states(UNEVEN, request) for request in range(3)], [(1, 2), (0,), (0, 1, 2)])
        self.assertEqual(allowed_states((flat(3), ((1000, 0, None),), 0), 0), (0, 1))
        self.assertEqual(allowed_states(plain(10), 0), tuple(range(10)))

    def test_unknown_states(self):
        for state in ODD + (3, 4, 1000):
            assert_error(self, UnknownState, ("state", state), switching_cost, UNEVEN, state, 0)
            assert_error(self, UnknownState, ("state", state), switching_cost, UNEVEN, 0, state)
            assert_error(self, UnknownState, ("state", state), request_cost, UNEVEN, 0, state)

    def test_unknown_requests(self):
        for request in ODD + (2, 3, 1000):
            assert_error(self, UnknownRequest, ("request", request), request_cost, A, request, 0)
            assert_error(self, UnknownRequest, ("request", request), allowed_states, A, request)

    def test_requests_and_states_have_their_own_bounds(self):
        system = plain(4, 2)
        self.assertEqual(request_cost(system, 1, 3), 0)
        assert_error(self, UnknownRequest, ("request", 2), request_cost, system, 2, 2)
        assert_error(self, UnknownState, ("state", 4), request_cost, system, 1, 4)
        system = plain(2, 4)
        self.assertEqual(request_cost(system, 3, 1), 0)
        assert_error(self, UnknownState, ("state", 2), request_cost, system, 2, 2)

    def test_first_of_several_unknown_states(self):
        assert_error(self, UnknownState, ("state", -1), switching_cost, A, -1, 2)
        assert_error(self, UnknownState, ("state", True), switching_cost, A, True, None)
        assert_error(self, UnknownRequest, ("request", 5), request_cost, A, 5, 7)
        assert_error(self, InvalidSystem, None, request_cost, A[:2], 5, 7)


class TestIsSequence(unittest.TestCase):
    def test_examples(self):
        self.assertEqual([is_sequence(A, (0, 1, 1)), is_sequence(A, (2,)), is_sequence(A, [0])], [True, False, False])

    def test_length(self):
        for length in (0, 1, 399, 400, 401, 402, 1000):
            self.assertIs(is_sequence(A, (1,) * length), length <= 400, length)

    def test_requests_and_not_states_are_counted(self):
        self.assertIs(is_sequence(plain(2, 8), (7, 0, 7)), True)
        self.assertIs(is_sequence(plain(2, 8), (8,)), False)
        self.assertIs(is_sequence(plain(9, 2), (1,)), True)
        self.assertIs(is_sequence(plain(9, 2), (2,)), False)

    def test_one_wrong_request_at_each_place(self):
        for at in range(5):
            for wrong in ODD + (2,):
                value = (0,) * at + (wrong,) + (1,) * (4 - at)
                self.assertIs(is_sequence(A, value), False, value)

    def test_other_kinds(self):
        for value in ODD:
            self.assertIs(is_sequence(A, value), value == () and isinstance(value, tuple), value)

    def test_invalid_system(self):
        for value in ((), (9,), None, [0]):
            assert_error(self, InvalidSystem, None, is_sequence, (A[0], A[1], 2), value)


if __name__ == "__main__":
    unittest.main()
