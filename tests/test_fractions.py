"""Point [4]: fractions, their sums and their order."""

import copy
import inspect
import unittest
from fractions import Fraction
from math import gcd

from offscale import fractions
from offscale.errors import NoFraction, SlideError
from offscale.fractions import (
    compare,
    floor_of,
    fraction,
    is_fraction,
    minus,
    over,
    part_of,
    plus,
    times,
    total,
)

BIG = 10 ** 18
HUGE = 10 ** 39 + 3

INTEGERS = (
    0, 1, 2, 3, 4, 6, 7, 9, 10, 12, 97, 360, 2 ** 53, 2 ** 53 + 1, 2 ** 59, 3 ** 37,
    BIG - 1, BIG, -1, -2, -3, -5, -6, -8, -100, -(2 ** 53) - 1, 1 - BIG, -BIG,
)

# All kinds of any value, but for integers.
NOT_INTEGERS = (
    True, False, None, "", "1", "1/2", "x", (), (1,), (1, 2), (0, 1), [], [1], [1, 2],
    {}, {1: 2}, {"x": (1, 2)}, ((1, 2), (3, 4)),
)

# Zero, wholes, fractions, contrary ones, and ones that floats cannot tell apart.
SOME = (
    (0, 1), (1, 1), (-1, 1), (2, 1), (-2, 1), (7, 1), (1, 2), (-1, 2), (1, 3), (-1, 3),
    (2, 3), (-2, 3), (3, 4), (-3, 4), (5, 6), (7, 6), (-7, 6), (10, 3), (-10, 3),
    (BIG - 1, BIG), (1 - BIG, BIG), (BIG, BIG - 1), (-BIG, BIG - 1), (BIG - 2, BIG - 1),
    (1, BIG), (-1, BIG), (BIG, 1), (-BIG, 1), (HUGE, HUGE - 1), (-HUGE, HUGE + 1), (1, HUGE),
)


def wanted(value):
    """The tuple of one of Python's own exact fractions."""
    return (value.numerator, value.denominator)


class FractionCase(unittest.TestCase):
    def check_fraction(self, result, value):
        """Check that result is a fraction of plain integers with this value."""
        self.assertIs(type(result), tuple)
        self.assertEqual(result, wanted(value))
        self.assertEqual([type(item) for item in result], [int, int])


class ExampleTest(unittest.TestCase):
    def test_example(self):
        self.assertEqual(
            [
                fraction(6, -4),
                plus((1, 2), (1, 3)),
                over((1, 2), (-3, 4)),
                floor_of((-1, 2)),
                part_of((-1, 2)),
            ],
            [(-3, 2), (5, 6), (-2, 3), -1, (1, 2)],
        )


class SignatureTest(unittest.TestCase):
    def test_arguments(self):
        told = {
            "is_fraction": "(value)",
            "fraction": "(top, bottom=1)",
            "plus": "(one, other)",
            "minus": "(one, other)",
            "times": "(one, other)",
            "over": "(one, other)",
            "compare": "(one, other)",
            "floor_of": "(one)",
            "part_of": "(one)",
            "total": "(*some)",
        }
        for name, arguments in told.items():
            with self.subTest(name=name):
                function = getattr(fractions, name)
                self.assertEqual(str(inspect.signature(function)), arguments)
                self.assertEqual(function.__module__, "offscale.fractions")


class MakeTest(FractionCase):
    def test_pairs(self):
        for top in INTEGERS:
            for bottom in INTEGERS:
                if bottom != 0:
                    with self.subTest(top=top, bottom=bottom):
                        result = fraction(top, bottom)
                        self.check_fraction(result, Fraction(top, bottom))
                        self.assertGreaterEqual(result[1], 1)
                        self.assertEqual(gcd(*result), 1)

    def test_without_bottom(self):
        for top in (*INTEGERS, HUGE, -HUGE):
            with self.subTest(top=top):
                self.check_fraction(fraction(top), Fraction(top))

    def test_zero_is_one_tuple(self):
        for bottom in INTEGERS:
            if bottom != 0:
                self.assertEqual(fraction(0, bottom), (0, 1))
        self.assertEqual(fraction(0), (0, 1))

    def test_signs(self):
        self.assertEqual(fraction(6, 4), (3, 2))
        self.assertEqual(fraction(-6, 4), (-3, 2))
        self.assertEqual(fraction(6, -4), (-3, 2))
        self.assertEqual(fraction(-6, -4), (3, 2))
        self.assertEqual(fraction(5, -1), (-5, 1))

    def test_beyond_forty_digits(self):
        top, bottom = 6 * HUGE ** 3, -4 * HUGE
        self.check_fraction(fraction(top, bottom), Fraction(top, bottom))

    def test_bottom_of_zero(self):
        for top in INTEGERS:
            with self.subTest(top=top):
                self.assertRaises(NoFraction, fraction, top, 0)

    def test_wrong_top(self):
        for value in NOT_INTEGERS:
            with self.subTest(value=value):
                self.assertRaises(NoFraction, fraction, value)
                self.assertRaises(NoFraction, fraction, value, 1)
                self.assertRaises(NoFraction, fraction, value, -2)
                self.assertRaises(NoFraction, fraction, value, 0)

    def test_wrong_bottom(self):
        for value in NOT_INTEGERS:
            with self.subTest(value=value):
                self.assertRaises(NoFraction, fraction, 1, value)
                self.assertRaises(NoFraction, fraction, 0, value)
                self.assertRaises(NoFraction, fraction, -BIG, value)

    def test_both_wrong(self):
        for top in NOT_INTEGERS:
            for bottom in NOT_INTEGERS:
                self.assertRaises(NoFraction, fraction, top, bottom)

    def test_own_results_are_no_integers(self):
        self.assertRaises(NoFraction, fraction, fraction(1, 2), fraction(3))
        self.assertRaises(NoFraction, fraction, NoFraction())

    def test_the_error(self):
        with self.assertRaises(SlideError) as caught:
            fraction(1, 0)
        self.assertIs(type(caught.exception), NoFraction)
        self.assertIsInstance(caught.exception, ValueError)


class IsFractionTest(unittest.TestCase):
    def check_all(self, values, answer):
        for value in values:
            with self.subTest(value=value):
                self.assertIs(is_fraction(value), answer)

    def test_pairs(self):
        for top in INTEGERS:
            for bottom in INTEGERS:
                lowest = bottom >= 1 and gcd(top, bottom) == 1
                with self.subTest(top=top, bottom=bottom):
                    self.assertIs(is_fraction((top, bottom)), lowest)

    def test_fractions(self):
        self.check_all(SOME, True)

    def test_lists_with_the_same_items(self):
        self.check_all([list(one) for one in SOME], False)

    def test_not_in_lowest_terms(self):
        self.check_all([(top * 2, bottom * 2) for top, bottom in SOME], False)
        self.check_all([(0, 2), (0, BIG), (BIG, BIG), (-3, 3), (-4, 6), (6, 4)], False)

    def test_bottom_of_zero_or_below(self):
        self.check_all([(top, 0) for top in INTEGERS], False)
        self.check_all([(-top, -bottom) for top, bottom in SOME], False)

    def test_bools(self):
        self.check_all([(True, 1), (False, 1), (1, True), (0, True), (True, True)], False)
        self.check_all([(True, 2), (1, False), (False, False)], False)

    def test_other_lengths(self):
        self.check_all([(), (1,), (0,), (1, 2, 3), (1, 1, 1), (0, 1, 0)], False)

    def test_other_items(self):
        for value in NOT_INTEGERS:
            self.check_all([(value, 1), (1, value), (value, 2), (value, value)], False)

    def test_other_values(self):
        self.check_all(INTEGERS, False)
        self.check_all([True, False, None, "", "1/2", "ab", "12", [], {}], False)
        self.check_all([{1: 2}, {1: 2, 3: 4}, [(1, 2)], ((1, 2),), ((1, 2), (1, 3))], False)
        self.check_all([NoFraction(), (NoFraction(), 1), (1, NoFraction())], False)

    def test_what_fraction_returns(self):
        for top in INTEGERS:
            for bottom in INTEGERS:
                if bottom != 0:
                    self.assertIs(is_fraction(fraction(top, bottom)), True)


class SumsTest(FractionCase):
    def check_pairs(self, function, sign):
        for one in SOME:
            for other in SOME:
                with self.subTest(one=one, other=other):
                    value = sign(Fraction(*one), Fraction(*other))
                    self.check_fraction(function(one, other), value)

    def test_plus(self):
        self.check_pairs(plus, lambda one, other: one + other)

    def test_minus(self):
        self.check_pairs(minus, lambda one, other: one - other)

    def test_times(self):
        self.check_pairs(times, lambda one, other: one * other)

    def test_over(self):
        for one in SOME:
            for other in SOME:
                if other != (0, 1):
                    with self.subTest(one=one, other=other):
                        value = Fraction(*one) / Fraction(*other)
                        self.check_fraction(over(one, other), value)

    def test_over_zero(self):
        for one in SOME:
            with self.subTest(one=one):
                self.assertRaises(NoFraction, over, one, (0, 1))

    def test_zero_equal_and_contrary(self):
        for top, bottom in SOME:
            one, contrary = (top, bottom), (-top, bottom)
            self.assertEqual(plus(one, (0, 1)), one)
            self.assertEqual(minus(one, (0, 1)), one)
            self.assertEqual(minus((0, 1), one), contrary)
            self.assertEqual(times(one, (0, 1)), (0, 1))
            self.assertEqual(minus(one, one), (0, 1))
            self.assertEqual(plus(one, contrary), (0, 1))

    def test_total_of_none(self):
        self.assertEqual(total(), (0, 1))

    def test_total_of_one(self):
        for one in SOME:
            self.check_fraction(total(one), Fraction(*one))

    def test_total_of_two(self):
        for one in SOME:
            for other in SOME:
                self.assertEqual(total(one, other), plus(one, other))

    def test_total_of_many(self):
        self.check_fraction(total(*SOME), sum(Fraction(*one) for one in SOME))
        self.check_fraction(total(*SOME[::-1]), sum(Fraction(*one) for one in SOME))
        self.assertEqual(total((1, 2), (1, 2), (1, 2)), (3, 2))
        self.assertEqual(total((1, 2), (1, 3), (-5, 6)), (0, 1))
        self.assertEqual(total(*[(1, 7)] * 700), (100, 1))
        self.assertEqual(total(*[(1, n * (n + 1)) for n in range(1, 300)]), (299, 300))

    def test_nothing_is_kept(self):
        first = [total((1, 2), (1, 3)), plus((1, 2), (1, 3)), total(), fraction(2, 4)]
        second = [total((1, 2), (1, 3)), plus((1, 2), (1, 3)), total(), fraction(2, 4)]
        self.assertEqual(first, second)

    def test_arguments_stay(self):
        values = ([1, 2], {"x": [1]}, ([0], 1))
        before = copy.deepcopy(values)
        for value in values:
            is_fraction(value)
            self.assertRaises(NoFraction, fraction, value)
            self.assertRaises(NoFraction, fraction, 1, value)
        self.assertEqual(values, before)


class OrderTest(FractionCase):
    def test_compare(self):
        for one in SOME:
            for other in SOME:
                with self.subTest(one=one, other=other):
                    left, right = Fraction(*one), Fraction(*other)
                    result = compare(one, other)
                    self.assertIs(type(result), int)
                    self.assertEqual(result, (left > right) - (left < right))

    def test_compare_where_floats_fail(self):
        self.assertEqual(compare((BIG - 1, BIG), (BIG - 2, BIG - 1)), 1)
        self.assertEqual(compare((BIG - 2, BIG - 1), (BIG - 1, BIG)), -1)
        self.assertEqual(compare((1 - BIG, BIG), (2 - BIG, BIG - 1)), -1)
        self.assertEqual(compare((BIG - 1, BIG), (1, 1)), -1)

    def test_floor(self):
        for one in SOME:
            with self.subTest(one=one):
                result = floor_of(one)
                self.assertIs(type(result), int)
                self.assertLessEqual(result, Fraction(*one))
                self.assertGreater(result + 1, Fraction(*one))

    def test_floor_of_wholes_and_below_zero(self):
        told = {
            (0, 1): 0, (3, 1): 3, (-3, 1): -3, (7, 2): 3, (-7, 2): -4, (1, 3): 0,
            (-1, 3): -1, (BIG - 1, BIG): 0, (1 - BIG, BIG): -1, (-1, BIG): -1,
        }
        for one, floor in told.items():
            with self.subTest(one=one):
                self.assertEqual(floor_of(one), floor)

    def test_part(self):
        for one in SOME:
            with self.subTest(one=one):
                value = Fraction(*one)
                self.check_fraction(part_of(one), value - (value // 1))
                self.assertEqual(plus(part_of(one), (floor_of(one), 1)), one)

    def test_part_of_wholes_and_below_zero(self):
        told = {
            (0, 1): (0, 1), (3, 1): (0, 1), (-3, 1): (0, 1), (7, 2): (1, 2),
            (-7, 3): (2, 3), (-1, BIG): (BIG - 1, BIG), (BIG, BIG - 1): (1, BIG - 1),
        }
        for one, part in told.items():
            with self.subTest(one=one):
                self.assertEqual(part_of(one), part)


if __name__ == "__main__":
    unittest.main()
