"""[3.1], [3.2] and form_of of [3.3]: work functions."""

import unittest

from hindcost.errors import InvalidSequence, InvalidWork, UnknownRequest
from hindcost.schedules.schedules import optimum
from hindcost.work.functions import first_work, form_of, is_work, next_work, work_after
from tests.helpers import A, ODD, T, UNEVEN, assert_error, product_of, random_systems, replacements, work_by_hand

SYSTEMS = [A, T, UNEVEN] + random_systems(7, 25)


class TestIsWork(unittest.TestCase):
    def test_example(self):
        self.assertEqual([first_work(A), is_work(A, (5, 4)), is_work(A, (0, 2))], [(0, 1), True, False])

    def test_all_small_tuples(self):
        for system in SYSTEMS:
            table = system[0]
            states = range(len(table))
            for value in product_of(4, len(table)):
                expected = all(value[t] <= value[s] + table[s][t] for s in states for t in states)
                self.assertIs(is_work(system, value), expected, (system, value))

    def test_direction_of_switching(self):
        # From 0 to 1 costs 3, from 1 to 0 costs 1.
        self.assertIs(is_work(UNEVEN, (0, 3, 2)), True)
        self.assertIs(is_work(UNEVEN, (3, 0, 2)), False)

    def test_entries_are_not_negative(self):
        self.assertIs(is_work(A, (-1, 0)), False)
        self.assertIs(is_work(A, (0, -1)), False)
        self.assertIs(is_work(A, (0, 0)), True)

    def test_entries_have_no_bound(self):
        great = 10**50 - 2
        self.assertIs(is_work(A, (great, great + 1)), True)
        self.assertIs(is_work(A, (great, great - 2)), False)

    def test_length(self):
        for value in ((), (1,), (1, 1, 1)):
            self.assertIs(is_work(A, value), False, value)
        self.assertIs(is_work(UNEVEN, (1, 1)), False)
        self.assertIs(is_work(UNEVEN, (1, 1, 1)), True)

    def test_other_kinds(self):
        for value in ODD + ([0, 1], {0: 0, 1: 1}, (0, True), (False, 0), (0, None), (0, "1"), ((0, 1),)):
            self.assertIs(is_work(A, value), False, value)
        for value in replacements((0, 1)):
            self.assertIs(is_work(A, value), False, value)


class TestNextWork(unittest.TestCase):
    def test_examples(self):
        self.assertEqual([next_work(A, (0, 1), 1), work_after(A, (1, 0))], [(2, 1), (2, 3)])

    def test_first_is_the_row_of_the_start(self):
        self.assertEqual(first_work(UNEVEN), (1, 0, 2))
        for system in SYSTEMS:
            self.assertEqual(first_work(system), system[0][system[2]])
            self.assertEqual(work_after(system, ()), first_work(system))

    def test_words_of_the_document(self):
        for system in SYSTEMS:
            table, requests, _ = system
            for work in product_of(3, len(table)):
                if not is_work(system, work):
                    continue
                for request, costs in enumerate(requests):
                    allowed = [t for t, cost in enumerate(costs) if cost is not None]
                    expected = tuple(
                        min(work[t] + costs[t] + table[t][s] for t in allowed) for s in range(len(table))
                    )
                    found = next_work(system, work, request)
                    self.assertEqual(found, expected)
                    self.assertTrue(is_work(system, found))

    def test_least_cost_of_ending_in_each_state(self):
        for system in SYSTEMS:
            for length in range(5):
                for sequence in product_of(len(system[1]), length):
                    work = work_after(system, sequence)
                    self.assertEqual(work, work_by_hand(system, sequence), (system, sequence))
                    self.assertEqual(min(work), optimum(system, sequence))

    def test_great_entries(self):
        great = 10**49
        self.assertEqual(next_work(A, (great, great + 1), 1), (great + 2, great + 1))

    def test_longest_sequence(self):
        self.assertEqual(work_after(T, (1, 0) * 200), (200, 202))
        assert_error(self, InvalidSequence, None, work_after, T, (0,) * 401)

    def test_invalid_arguments(self):
        for work in ODD + ([0, 1], (0, 2), (0, 1, 1), (0,), (0, True), (-1, 0)):
            assert_error(self, InvalidWork, None, next_work, A, work, 0)
            assert_error(self, InvalidWork, None, next_work, A, work, 9)
            assert_error(self, InvalidWork, None, form_of, A, work)
        for request in ODD + (2, 3):
            assert_error(self, UnknownRequest, ("request", request), next_work, A, (0, 1), request)
        for sequence in ODD[:6] + ([0], (2,), (0, True)):
            assert_error(self, InvalidSequence, None, work_after, A, sequence)

    def test_work_of_another_system(self):
        assert_error(self, InvalidWork, None, next_work, A, first_work(T), 0)
        assert_error(self, InvalidWork, None, form_of, A, first_work(UNEVEN))


class TestFormOf(unittest.TestCase):
    def test_example(self):
        self.assertEqual(form_of(A, (2, 1)), ((1, 0), 1))

    def test_entries_minus_the_smallest(self):
        self.assertEqual(form_of(A, (0, 0)), ((0, 0), 0))
        self.assertEqual(form_of(UNEVEN, (8, 10, 9)), ((0, 2, 1), 8))
        self.assertEqual(form_of(A, (10**49 + 1, 10**49)), ((1, 0), 10**49))

    def test_after_sequences(self):
        for system in SYSTEMS:
            for sequence in product_of(len(system[1]), 3):
                work = work_after(system, sequence)
                form, smallest = form_of(system, work)
                self.assertEqual(smallest, optimum(system, sequence))
                self.assertEqual(tuple(entry + smallest for entry in form), work)
                self.assertEqual(min(form), 0)
                self.assertLessEqual(max(form), max(map(max, system[0])))


if __name__ == "__main__":
    unittest.main()
