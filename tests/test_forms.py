"""[3.3]: forms, increases and reachable forms."""

import unittest

from hindcost.errors import InvalidSystem, InvalidWork, TooLarge, UnknownRequest
from hindcost.work import forms
from hindcost.work.forms import is_form, next_form, reachable_forms, sequence_to_form
from hindcost.work.functions import first_work, form_of, is_work, next_work
from tests.helpers import (
    A, ODD, T, UNEVEN, assert_error, product_of, random_systems, replacements, slide, work_by_hand,
)

SYSTEMS = [A, T, UNEVEN] + random_systems(8, 25)


def slope(difference):
    """The form of two states whose entries have this difference."""
    return (max(0, -difference), max(0, difference))


class TestIsForm(unittest.TestCase):
    def test_examples(self):
        found = [is_form(A, (1, 0)), next_form(A, (1, 0), 1), next_form(A, (1, 0), 0)]
        self.assertEqual(found, [True, ((1, 0), 0), ((0, 1), 1)])
        self.assertEqual(forms.MAX_FORMS, 1000)

    def test_work_functions_with_smallest_entry_zero(self):
        for system in SYSTEMS:
            for value in product_of(4, len(system[0])):
                self.assertIs(is_form(system, value), is_work(system, value) and 0 in value, (system, value))

    def test_no_entry_above_the_greatest_switching_cost(self):
        self.assertIs(is_form(slide(500, 499), (0, 500)), True)
        self.assertIs(is_form(slide(500, 499), (0, 501)), False)
        self.assertIs(is_form(slide(500, 499), (499, 0)), True)
        self.assertIs(is_form(slide(500, 499), (500, 0)), False)

    def test_other_kinds(self):
        for value in ODD + ([0, 1], (0, True), (False, 1), (0,), (0, 1, 1), (1, 1), (5, 4)):
            self.assertIs(is_form(A, value), False, value)
        for value in replacements((0, 1)):
            self.assertIs(is_form(A, value), False, value)
        for value in (None, (0, 1), [0]):
            assert_error(self, InvalidSystem, None, is_form, A[:2], value)


class TestNextForm(unittest.TestCase):
    def test_form_and_increase_of_the_next_work_function(self):
        for system in SYSTEMS:
            for form in product_of(4, len(system[0])):
                if not is_form(system, form):
                    continue
                for request in range(len(system[1])):
                    found, increase = next_form(system, form, request)
                    self.assertEqual((found, increase), form_of(system, next_work(system, form, request)))
                    self.assertTrue(is_form(system, found))
                    self.assertGreaterEqual(increase, 0)
                    # The same from each work function with this form.
                    higher = next_work(system, tuple(entry + 7 for entry in form), request)
                    self.assertEqual(form_of(system, higher), (found, increase + 7))

    def test_forms_that_are_not_reachable(self):
        self.assertEqual(next_form(A, (0, 0), 1), ((1, 0), 0))
        self.assertEqual(next_form(slide(3, 2), (0, 0), 0), ((1, 0), 0))

    def test_errors(self):
        for form in ODD + ([1, 0], (0, 2), (1, 1), (2, 1), (0, True)):
            assert_error(self, InvalidWork, None, next_form, A, form, 0)
            assert_error(self, InvalidWork, None, next_form, A, form, 2)
        for request in ODD + (2, 3):
            assert_error(self, UnknownRequest, ("request", request), next_form, A, (1, 0), request)
            assert_error(self, InvalidWork, None, next_form, A, (2, 1), request)


class TestReachableForms(unittest.TestCase):
    def test_example(self):
        self.assertEqual(reachable_forms(A), ((0, 1), (1, 0)))

    def test_against_all_short_request_tuples(self):
        for system in SYSTEMS:
            found = reachable_forms(system)
            self.assertEqual(found, tuple(sorted(set(found))))
            self.assertIn(first_work(system), found)
            seen = set()
            for length in range(5):
                for sequence in product_of(len(system[1]), length):
                    work = work_by_hand(system, sequence)
                    seen.add(tuple(entry - min(work) for entry in work))
            self.assertLessEqual(seen, set(found))
            closure = {first_work(system)}
            while True:
                more = {next_form(system, f, r)[0] for f in closure for r in range(len(system[1]))} - closure
                if not more:
                    break
                closure |= more
            self.assertEqual(set(found), closure)

    def test_start_decides_where_the_search_begins(self):
        self.assertEqual(reachable_forms(slide(1, 2)), ((0, 0), (0, 1), (1, 0), (2, 0)))
        switching, requests, _ = slide(1, 2)
        self.assertEqual(reachable_forms((switching, requests, 1)), ((2, 0),))

    def test_thousand_forms_and_more(self):
        for up, down in ((500, 499), (499, 500), (1, 998), (998, 1)):
            self.assertEqual(reachable_forms(slide(up, down)), tuple(sorted(map(slope, range(-down, up + 1)))))
        for up, down in ((500, 500), (1, 999), (1000, 1000)):
            assert_error(self, TooLarge, ("limit", 1000), reachable_forms, slide(up, down))

    def test_many_forms_of_many_states(self):
        size = 10
        table = tuple(tuple(0 if s == t else 1000 for t in range(size)) for s in range(size))
        requests = tuple(tuple((s + r) % size for s in range(size)) for r in range(8))
        assert_error(self, TooLarge, ("limit", 1000), reachable_forms, (table, requests, 0))


class TestSequenceToForm(unittest.TestCase):
    def test_example(self):
        self.assertEqual([sequence_to_form(A, (1, 0)), sequence_to_form(A, (0, 0))], [(1,), None])

    def test_first_form(self):
        for system in SYSTEMS:
            self.assertEqual(sequence_to_form(system, first_work(system)), ())

    def test_smallest_of_the_shortest(self):
        long = 0
        for system in SYSTEMS:
            shortest = {}
            for length in range(5):
                for sequence in product_of(len(system[1]), length):
                    work = work_by_hand(system, sequence)
                    shortest.setdefault(tuple(entry - min(work) for entry in work), sequence)
            for form in reachable_forms(system):
                found = sequence_to_form(system, form)
                if form in shortest:
                    self.assertEqual(found, shortest[form])
                    long += len(found) > 1
                else:
                    self.assertGreater(len(found), 4)
            for form in product_of(4, len(system[0])):
                if is_form(system, form) and form not in reachable_forms(system):
                    self.assertIsNone(sequence_to_form(system, form))
        self.assertGreater(long, 20)

    def test_the_smaller_of_two_shortest(self):
        # Both requests lead to (0, 0) and then to (1, 0).
        system = (((0, 1), (1, 0)), ((1, 0), (2, 1)), 0)
        self.assertEqual(sequence_to_form(system, (1, 0)), (0, 0))

    def test_longer_than_a_sequence(self):
        self.assertEqual(sequence_to_form(slide(500, 499), (499, 0)), (0,) * 999)
        self.assertEqual(sequence_to_form(slide(500, 499), (0, 99)), (0,) * 401)

    def test_more_than_thousand_forms(self):
        # The first form, one that is led to soon, and one that is not reachable with the fewer forms.
        for form in ((0, 500), (0, 499), (500, 0)):
            assert_error(self, TooLarge, ("limit", 1000), sequence_to_form, slide(500, 500), form)
        assert_error(self, TooLarge, ("limit", 1000), sequence_to_form, slide(1000, 1), (0, 1000))

    def test_errors(self):
        for form in ODD + ([1, 0], (0, 2), (1, 1), (2, 1), (0, True)):
            assert_error(self, InvalidWork, None, sequence_to_form, A, form)
        assert_error(self, InvalidWork, None, sequence_to_form, slide(500, 500), (0, 501))
        assert_error(self, InvalidWork, None, sequence_to_form, slide(500, 500), (1, 1))
        assert_error(self, InvalidSystem, None, sequence_to_form, slide(500, 0), (1, 1))


if __name__ == "__main__":
    unittest.main()
