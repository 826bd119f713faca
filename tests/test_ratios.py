"""Point 12: ratios."""

import unittest
from fractions import Fraction
from math import gcd

from stirred.errors import InvalidRatioError, ZeroRatioError
from stirred.mixtures import Mixture
from stirred.ratios import Ratio, is_ratio, total
from tests.values import BIG, NOT_INTEGERS, Anything, ListBelow, pair

NOT_RATIOS = [value for value in NOT_INTEGERS if not isinstance(value, Ratio)] + [
    0, 1, 2, -1, (2, 1), [2, 1], Mixture({}), Mixture({0: Ratio(2)}), Ratio, Anything()]

SMALL = [(top, bottom) for top in range(-7, 8) for bottom in range(1, 7)]

LONG = [(BIG, BIG + 1), (BIG - 1, BIG), (-BIG, BIG + 2), (BIG * 6, 4), (-BIG * 15, BIG * 21), (1, BIG), (-1, BIG),
        (10 ** 30, 10 ** 30 - 1), (10 ** 30 - 1, 10 ** 30), (0, BIG), (BIG, 1), (7, 3)]


def pair_of_fraction(fraction):
    return fraction.numerator, fraction.denominator


class Construction(unittest.TestCase):
    def test_lowest_terms(self):
        for given, wanted in [((2, 3), (2, 3)), ((-6, 4), (-3, 2)), ((6, 4), (3, 2)), ((0, 1), (0, 1)),
                              ((0, 9), (0, 1)), ((12, 4), (3, 1)), ((-12, 4), (-3, 1)), ((4, 12), (1, 3)),
                              ((-4, 12), (-1, 3)), ((1, 1), (1, 1)), ((-1, 1), (-1, 1)), ((36, 60), (3, 5))]:
            with self.subTest(given):
                self.assertEqual(pair(Ratio(*given)), wanted)

    def test_all_small_ones(self):
        for top, bottom in SMALL:
            self.assertEqual(pair(Ratio(top, bottom)), pair_of_fraction(Fraction(top, bottom)))

    def test_the_bottom_is_1_if_it_is_left_out(self):
        for top in (0, 1, -1, 12, -12, 10 ** 30, -BIG):
            self.assertEqual(pair(Ratio(top)), (top, 1))

    def test_numbers_of_31_digits(self):
        top, bottom = 10 ** 30 + 57, 10 ** 30 + 58
        self.assertEqual(pair(Ratio(top, bottom)), (top, bottom))
        self.assertEqual(pair(Ratio(-top, bottom)), (-top, bottom))
        self.assertEqual(pair(Ratio(6 * 10 ** 30, 4 * 10 ** 30)), (3, 2))
        self.assertEqual(pair(Ratio(-9 * 10 ** 30, 10 ** 30)), (-9, 1))

    def test_numbers_of_400_digits(self):
        self.assertEqual(len(str(BIG)), 400)
        self.assertEqual(pair(Ratio(BIG, BIG - 1)), (BIG, BIG - 1))
        self.assertEqual(pair(Ratio(-BIG, BIG)), (-1, 1))
        self.assertEqual(pair(Ratio(6 * BIG, 4 * BIG)), (3, 2))
        self.assertEqual(pair(Ratio(-3 * 7 ** 400, 2 * 7 ** 401)), (-3, 14))

    def test_arguments_by_name(self):
        self.assertEqual(pair(Ratio(top=-6, bottom=4)), (-3, 2))
        self.assertEqual(pair(Ratio(bottom=4, top=-6)), (-3, 2))
        self.assertEqual(pair(Ratio(-6, bottom=4)), (-3, 2))
        self.assertEqual(pair(Ratio(top=5)), (5, 1))

    def test_top_and_bottom_are_integers(self):
        for value in (Ratio(-6, 4), Ratio(0, 5), Ratio(BIG, 3)):
            self.assertIs(value.top.__class__, int)
            self.assertIs(value.bottom.__class__, int)

    def test_a_ratio_does_not_change(self):
        one = Ratio(2, 3)
        with self.assertRaises(AttributeError):
            one.top = 5
        with self.assertRaises(AttributeError):
            one.bottom = 5
        self.assertEqual(pair(one), (2, 3))

    def test_a_top_that_is_no_integer(self):
        for top in NOT_INTEGERS:
            with self.subTest(top):
                self.assertRaises(InvalidRatioError, Ratio, top)
                self.assertRaises(InvalidRatioError, Ratio, top, 3)
                self.assertRaises(InvalidRatioError, Ratio, top=top, bottom=3)

    def test_a_bottom_that_is_no_integer(self):
        for bottom in NOT_INTEGERS:
            with self.subTest(bottom):
                self.assertRaises(InvalidRatioError, Ratio, 3, bottom)
                self.assertRaises(InvalidRatioError, Ratio, 0, bottom)
                self.assertRaises(InvalidRatioError, Ratio, top=3, bottom=bottom)

    def test_a_bottom_of_0_or_below(self):
        for bottom in (0, -1, -2, -10 ** 30, -BIG):
            for top in (0, 1, -1, bottom):
                self.assertRaises(InvalidRatioError, Ratio, top, bottom)

    def test_both_are_wrong(self):
        for top in NOT_INTEGERS:
            for bottom in (0, -1, True, None, "1"):
                self.assertRaises(InvalidRatioError, Ratio, top, bottom)


class Reckoning(unittest.TestCase):
    def check(self, one, other):
        """Compare all reckoning with two ratios with that of Python's own fractions."""
        first, second = Ratio(*one), Ratio(*other)
        a, b = Fraction(*one), Fraction(*other)
        self.assertEqual(pair(first + second), pair_of_fraction(a + b))
        self.assertEqual(pair(first - second), pair_of_fraction(a - b))
        self.assertEqual(pair(first * second), pair_of_fraction(a * b))
        self.assertEqual(pair(-first), pair_of_fraction(-a))
        self.assertIs(first.is_less(second), a < b)
        self.assertIs(first == second, a == b)
        self.assertIs(first != second, a != b)
        if b != 0:
            self.assertEqual(pair(first.over(second)), pair_of_fraction(a / b))
        self.assertEqual(pair(first), pair_of_fraction(a))
        self.assertEqual(pair(second), pair_of_fraction(b))

    def test_all_small_ones(self):
        for one in SMALL:
            for other in SMALL:
                self.check(one, other)

    def test_long_ones(self):
        for one in LONG:
            for other in LONG:
                self.check(one, other)

    def test_results_are_ratios(self):
        one, other = Ratio(2, 3), Ratio(-3, 2)
        for value in (one + other, one - other, one * other, -one, one.over(other)):
            self.assertIs(is_ratio(value), True)
            self.assertGreaterEqual(value.bottom, 1)

    def test_with_itself(self):
        one = Ratio(2, 3)
        self.assertEqual([pair(one + one), pair(one - one), pair(one * one), pair(one.over(one))],
                         [(4, 3), (0, 1), (4, 9), (1, 1)])
        self.assertIs(one.is_less(one), False)
        self.assertIs(one == one, True)
        self.assertIs(one != one, False)

    def test_chains(self):
        a, b, c, d = Ratio(1, 2), Ratio(-2, 3), Ratio(3, 4), Ratio(5)
        self.assertEqual(pair(a + b * c - d), (-5, 1))
        self.assertEqual(pair((a + b) * (c - d)), (17, 24))
        self.assertEqual(pair(a - b - c - d), (-55, 12))
        self.assertEqual(pair(a - (b - (c - d))), (-37, 12))
        self.assertEqual(pair(-(-a) + -b), (7, 6))
        self.assertEqual(pair(a.over(b).over(c).over(d)), (-1, 5))
        self.assertEqual([pair(a), pair(b), pair(c), pair(d)], [(1, 2), (-2, 3), (3, 4), (5, 1)])

    def test_a_long_chain(self):
        found, wanted = Ratio(1), Fraction(1)
        for k in range(1, 41):
            found = (found + Ratio(1, k)) * Ratio(-k, k + 2) - Ratio(k, 7)
            wanted = (wanted + Fraction(1, k)) * Fraction(-k, k + 2) - Fraction(k, 7)
        self.assertEqual(pair(found), pair_of_fraction(wanted))

    def test_long_ones_that_differ_by_very_little(self):
        less, more = Ratio(BIG - 1, BIG), Ratio(BIG, BIG + 1)
        self.assertIs(less.is_less(more), True)
        self.assertIs(more.is_less(less), False)
        self.assertIs((-more).is_less(-less), True)
        self.assertIs((-less).is_less(-more), False)
        self.assertIs(less == more, False)
        self.assertIs(less != more, True)
        self.assertEqual(pair(more - less), (1, BIG * (BIG + 1)))
        self.assertEqual(pair(less - more), (-1, BIG * (BIG + 1)))
        self.assertIs(Ratio(BIG) == Ratio(BIG + 1), False)
        self.assertIs(Ratio(BIG).is_less(Ratio(BIG + 1)), True)
        self.assertIs(Ratio(1, BIG + 1).is_less(Ratio(1, BIG)), True)

    def test_a_quotient_by_a_negative_ratio(self):
        for one in SMALL:
            quotient = Ratio(*one).over(Ratio(-4, 6))
            self.assertGreaterEqual(quotient.bottom, 1)
            self.assertEqual(pair(quotient), pair_of_fraction(Fraction(*one) / Fraction(-4, 6)))
        self.assertEqual(pair(Ratio(0).over(Ratio(-5))), (0, 1))
        self.assertEqual(pair(Ratio(BIG).over(Ratio(-BIG, 3))), (-3, 1))

    def test_arguments_by_name(self):
        self.assertIs(Ratio(1).is_less(other=Ratio(2)), True)
        self.assertEqual(pair(Ratio(1).over(other=Ratio(-2))), (-1, 2))

    def test_an_other_that_is_no_ratio(self):
        for one in (Ratio(2, 3), Ratio(0)):
            for other in NOT_RATIOS:
                with self.subTest(other):
                    self.assertRaises(InvalidRatioError, one.is_less, other)
                    self.assertRaises(InvalidRatioError, one.over, other)
        self.assertEqual(pair(one), (0, 1))

    def test_no_quotient_by_0(self):
        for one in (Ratio(2, 3), Ratio(-2, 3), Ratio(0), Ratio(BIG)):
            before = pair(one)
            self.assertRaises(ZeroRatioError, one.over, Ratio(0))
            self.assertRaises(ZeroRatioError, one.over, Ratio(0, 7))
            self.assertEqual(pair(one), before)


class Equality(unittest.TestCase):
    def test_equal_ones(self):
        for one, other in [(Ratio(1, 2), Ratio(2, 4)), (Ratio(0), Ratio(0, 9)), (Ratio(-3), Ratio(-6, 2)),
                           (Ratio(BIG, 2 * BIG), Ratio(1, 2))]:
            self.assertIs(one == other, True)
            self.assertIs(one != other, False)

    def test_unequal_ones(self):
        for one, other in [(Ratio(1, 2), Ratio(1, 3)), (Ratio(1, 2), Ratio(3, 2)), (Ratio(1, 2), Ratio(-1, 2)),
                           (Ratio(2, 3), Ratio(3, 2)), (Ratio(0), Ratio(1)), (Ratio(5), Ratio(1, 5))]:
            self.assertIs(one == other, False)
            self.assertIs(one != other, True)

    def test_a_value_that_is_no_ratio(self):
        for one in (Ratio(2), Ratio(1), Ratio(0), Ratio(1, 2)):
            for other in NOT_RATIOS:
                with self.subTest(other):
                    self.assertIs(one == other, False)
                    self.assertIs(one != other, True)
                    if not isinstance(other, Anything):
                        self.assertIs(other == one, False)
                        self.assertIs(other != one, True)


class Functions(unittest.TestCase):
    def test_is_ratio(self):
        for value in (Ratio(0), Ratio(2), Ratio(-2, 3), Ratio(BIG)):
            self.assertIs(is_ratio(value), True)
            self.assertIs(is_ratio(value=value), True)
        for value in NOT_RATIOS:
            self.assertIs(is_ratio(value), False)

    def test_the_sum_of_no_ratios(self):
        found = total([])
        self.assertIs(is_ratio(found), True)
        self.assertEqual(pair(found), (0, 1))

    def test_sums(self):
        self.assertEqual(pair(total([Ratio(-2, 3)])), (-2, 3))
        self.assertEqual(pair(total([Ratio(2, 3)] * 3)), (2, 1))
        self.assertEqual(pair(total([Ratio(1, 2), Ratio(-1, 3), Ratio(5)])), (31, 6))
        self.assertEqual(pair(total([Ratio(1, 2), Ratio(-1, 2)])), (0, 1))
        self.assertEqual(pair(total(ratios=[Ratio(1), Ratio(1, 2)])), (3, 2))

    def test_the_sum_of_400_ratios(self):
        wanted = sum([Fraction(k - 150, k + 1) for k in range(400)], Fraction(0))
        self.assertEqual(pair(total([Ratio(k - 150, k + 1) for k in range(400)])), pair_of_fraction(wanted))
        self.assertEqual(pair(total([Ratio(k) for k in range(400)])), (79800, 1))

    def test_the_list_stays_as_it_is(self):
        items = [Ratio(1, 2), Ratio(-3), Ratio(1, 2)]
        kept = list(items)
        total(items)
        self.assertEqual([id(item) for item in items], [id(item) for item in kept])
        self.assertEqual([pair(item) for item in items], [(1, 2), (-3, 1), (1, 2)])
        empty = []
        total(empty)
        self.assertEqual(empty, [])

    def test_no_list(self):
        one = Ratio(1)
        for value in (None, 0, 1, True, "", "ab", (), (one,), (one, one), {}, {0: one}, one, iter([one]), set(),
                      (item for item in [one]), Mixture({}), Mixture({0: one}), b"", range(0), ListBelow([one])):
            with self.subTest(value):
                self.assertRaises(InvalidRatioError, total, value)

    def test_an_item_that_is_no_ratio(self):
        for value in NOT_RATIOS:
            for at in range(4):
                items = [Ratio(1), Ratio(2), Ratio(3)]
                items.insert(at, value)
                with self.subTest((value, at)):
                    self.assertRaises(InvalidRatioError, total, items)
                self.assertEqual(len(items), 4)
            self.assertRaises(InvalidRatioError, total, [value])

    def test_one_wrong_item_among_400(self):
        for at in (0, 1, 200, 398, 399):
            items = [Ratio(1)] * 400
            items[at] = 1
            self.assertRaises(InvalidRatioError, total, items)


class LowestTerms(unittest.TestCase):
    def test_long_ones(self):
        for one in LONG:
            for other in LONG:
                for value in (Ratio(*one) + Ratio(*other), Ratio(*one) * Ratio(*other)):
                    self.assertEqual(gcd(value.top, value.bottom), 1)


if __name__ == "__main__":
    unittest.main()
