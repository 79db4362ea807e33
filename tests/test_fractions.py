"""[0.7] and the fractions of stage 6."""

import fractions as exact
import itertools
import math
import unittest

from hindcost.errors import InvalidNumber
from hindcost.ratios.fractions import INFINITE, compare_ratios, is_ratio, make_fraction
from tests.helpers import ODD, assert_error

BIG = 10**49
NO_RATIOS = ODD + (
    (2, 4), (0, 0), (0, 2), (2, 0), (-1, 1), (1, -1), (-1, -1), (-1, 0), (0, -1), (True, 1), (1, True), (False, 1),
    (1, False), (1,), (1, 1, 1), [1, 1], ("1", 1), (1, None), ((1, 1), 1), 1, 0, (BIG, BIG), (2 * BIG, 4), "1/2",
)


class TestIsRatio(unittest.TestCase):
    def test_examples(self):
        found = [is_ratio((2, 4)), make_fraction(2, 4), compare_ratios((3, 1), (1, 0))]
        self.assertEqual(found, [False, (1, 2), -1])
        self.assertEqual(INFINITE, (1, 0))

    def test_small_pairs(self):
        for p, q in itertools.product(range(-3, 13), repeat=2):
            expected = (p, q) == (1, 0) or (p >= 0 and q >= 1 and math.gcd(p, q) == 1)
            self.assertIs(is_ratio((p, q)), expected, (p, q))

    def test_great_numbers(self):
        for pair in ((BIG, 1), (1, BIG), (BIG, BIG - 1), (10**50 - 1, 10**50 - 2), (BIG + 1, BIG)):
            self.assertIs(is_ratio(pair), True)

    def test_other_values(self):
        for value in NO_RATIOS:
            self.assertIs(is_ratio(value), False, value)


class TestMakeFraction(unittest.TestCase):
    def test_lowest_terms(self):
        for p, q in itertools.product(range(40), range(1, 40)):
            expected = exact.Fraction(p, q)
            found = make_fraction(p, q)
            self.assertEqual(found, (expected.numerator, expected.denominator))
            self.assertTrue(is_ratio(found))
        self.assertEqual(make_fraction(0, 7), (0, 1))
        self.assertEqual(make_fraction(6 * BIG, 4 * BIG), (3, 2))

    def test_errors(self):
        for value in ODD + (-1, [1], (1, 1)):
            if value not in (BIG, 10**50 - 1) or isinstance(value, bool):
                assert_error(self, InvalidNumber, ("value", value), make_fraction, value, 1)
                assert_error(self, InvalidNumber, ("value", value), make_fraction, value, 0)
                assert_error(self, InvalidNumber, ("value", value), make_fraction, 1, value)
        assert_error(self, InvalidNumber, ("value", 0), make_fraction, 0, 0)
        assert_error(self, InvalidNumber, ("value", 0), make_fraction, 1, 0)
        assert_error(self, InvalidNumber, ("value", -2), make_fraction, -2, -3)


class TestCompareRatios(unittest.TestCase):
    def test_against_exact_fractions(self):
        ratios = [(p, q) for p, q in itertools.product(range(8), repeat=2) if is_ratio((p, q))]
        self.assertIn((1, 0), ratios)
        for one, other in itertools.product(ratios, repeat=2):
            if one == other:
                expected = 0
            elif (1, 0) in (one, other):
                expected = -1 if other == (1, 0) else 1
            else:
                expected = -1 if exact.Fraction(*one) < exact.Fraction(*other) else 1
            self.assertEqual(compare_ratios(one, other), expected, (one, other))

    def test_great_numbers(self):
        self.assertEqual(compare_ratios((BIG, BIG - 1), (BIG + 1, BIG)), 1)
        self.assertEqual(compare_ratios((BIG, 1), (1, 0)), -1)
        self.assertEqual(compare_ratios((1, BIG), (0, 1)), 1)

    def test_errors(self):
        for value in NO_RATIOS:
            assert_error(self, InvalidNumber, ("value", value), compare_ratios, value, (1, 1))
            assert_error(self, InvalidNumber, ("value", value), compare_ratios, (1, 0), value)
            assert_error(self, InvalidNumber, ("value", value), compare_ratios, value, (2, 4))


if __name__ == "__main__":
    unittest.main()
