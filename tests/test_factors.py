"""Points 10, 11 and 15: factors, determinants and mixtures of the other rows."""

import unittest
from fractions import Fraction

from stirred.errors import InvalidRowsError, InvalidVesselError
from stirred.factors import determinant, factor_of, is_mixture_for, mixture_for
from stirred.mixtures import Mixture
from stirred.ratios import Ratio, is_ratio
from stirred.vessels import contents_after, shares_after, volumes_after
from tests.faults import check_error, check_faults, stays
from tests.model import ALL, LONGEST, MILLION, Numbers, determinant_of, fractions_of, ratios_of
from tests.values import NOT_INTEGERS, NO_LISTS, Anything, ListBelow, T, V, lists_within, nested, pair

ONE = Ratio(1)

NOT_RATIOS = [value for value in NOT_INTEGERS if not isinstance(value, Ratio)] + [0, 1, (1, 2), Mixture({}), Anything()]

WRONG_ROWS = NO_LISTS + [
    [], [[]], [[], []], [ONE], [[[ONE]]], [[ONE] * 9], [[ONE]] * 9, [[ONE] * 9] * 9, [[ONE], []], [[], [ONE]],
    [[ONE, ONE], [ONE]], [[ONE], [ONE, ONE]], [[ONE, ONE], [ONE, ONE], [ONE]], ([ONE],), [(ONE,)], [[ONE], (ONE,)],
    [ListBelow([ONE])], ListBelow([[ONE]]), [None], [[ONE], None], [{0: ONE}], [[[ONE, ONE], [ONE, ONE]]],
    [[ONE] * 8] * 7 + [[ONE] * 7], nested(20), nested(5000), [nested(3), [ONE]]] + [
    [[value]] for value in NOT_RATIOS] + [[[ONE, ONE], [ONE, value]] for value in NOT_RATIOS] + [
    [[value, ONE], [ONE, ONE]] for value in NOT_RATIOS]

NOT_SQUARE = [(1, 2), (2, 1), (1, 8), (8, 1), (2, 3), (3, 2), (7, 8), (8, 7), (3, 8)]


def rows_of(seed, many, each, most=9, bottoms=5):
    """Return as many rows of as many fractions each, some of them below 0."""
    numbers = Numbers(seed)
    return [[Fraction(numbers.between(-most, most), numbers.between(1, bottoms)) for _ in range(each)]
            for _ in range(many)]


def sum_of(rows, parts):
    return [sum((row[k] * part for row, part in zip(rows, parts)), Fraction(0)) for k in range(len(rows[0]))]


class Factors(unittest.TestCase):
    def test_small_ones(self):
        for volumes, transfers, wanted in [
                (V, [], (1, 1)), ([5], [], (1, 1)), (V, T[:1], (2, 3)), (V, T, (4, 9)), (V, [(1, 0, 1)], (3, 4)),
                ([2, 2], [(0, 1, 1), (1, 0, 1)], (1, 3)), ([2, 2, 2], [(0, 1, 1), (1, 2, 1), (2, 0, 1)], (2, 9)),
                ([MILLION, 1], [(0, 1, 999999)], (1, MILLION))]:
            self.assertEqual(pair(factor_of(volumes, transfers)), wanted)

    def test_the_product_over_the_transfers(self):
        for volumes, transfers in ALL:
            now, wanted = list(volumes), Fraction(1)
            for giver, taker, amount in transfers:
                wanted *= Fraction(now[taker], now[taker] + amount)
                now[giver] -= amount
                now[taker] += amount
            found = stays(self, factor_of, volumes, transfers)
            self.assertTrue(is_ratio(found))
            self.assertEqual(pair(found), (wanted.numerator, wanted.denominator))

    def test_it_is_the_determinant_of_the_shares(self):
        for volumes, transfers in ALL:
            self.assertEqual(determinant(shares_after(volumes, transfers)), factor_of(volumes, transfers))

    def test_two_parts(self):
        # Volumes of more than a million can stand behind transfers, but not be passed again.
        for volumes, transfers in [case for case in ALL if sum(case[0]) <= MILLION]:
            for cut in range(len(transfers) + 1):
                first = factor_of(volumes, transfers[:cut])
                second = factor_of(volumes_after(volumes, transfers[:cut]), transfers[cut:])
                self.assertEqual(factor_of(volumes, transfers), first * second)

    def test_faults(self):
        check_faults(self, factor_of)

    def test_arguments_by_name(self):
        self.assertEqual(pair(factor_of(transfers=T, volumes=V)), (4, 9))


class Determinants(unittest.TestCase):
    def check(self, rows, wanted):
        found = stays(self, determinant, ratios_of(rows))
        self.assertTrue(is_ratio(found))
        self.assertEqual(Fraction(found.top, found.bottom), wanted)

    def test_small_ones(self):
        for rows, wanted in [([[5]], 5), ([[0]], 0), ([["-3/4"]], Fraction(-3, 4)), ([[1, 2], [2, 4]], 0),
                             ([[1, 2], [3, 4]], -2), ([[0, 1], [1, 0]], -1), ([[0, 2], [3, 4]], -6),
                             ([[0, 0], [3, 4]], 0), ([[0, 3], [0, 4]], 0),
                             ([["1/2", "1/3"], ["1/5", "1/7"]], Fraction(1, 14) - Fraction(1, 15)),
                             ([[2, 0, 0], [0, 3, 0], [0, 0, 4]], 24), ([[0, 0, 1], [1, 0, 0], [0, 1, 0]], 1),
                             ([[0, 0, 1], [0, 1, 0], [1, 0, 0]], -1), ([[1, 2, 3], [4, 5, 6], [7, 8, 9]], 0),
                             ([[1, 2, 3], [4, 5, 6], [7, 8, 10]], -3), ([[0, 2, 1], [0, 0, 3], [4, 5, 6]], 24)]:
            self.check(rows, wanted)

    def test_by_its_definition(self):
        for seed in range(60):
            many = 1 + seed % 5
            rows = rows_of(seed, many, many, most=(1, 2, 9, 10 ** 30)[seed % 4], bottoms=(1, 6, 10 ** 30)[seed % 3])
            self.check(rows, determinant_of(rows))

    def test_all_rows_of_0_and_1(self):
        for bits in range(2 ** 9):
            rows = [[bits >> (3 * i + k) & 1 for k in range(3)] for i in range(3)]
            self.check(rows, determinant_of(rows))

    def test_one_ratio_in_each_row_and_column(self):
        for order, sign in [([0, 1, 2, 3, 4, 5, 6, 7], 1), ([7, 6, 5, 4, 3, 2, 1, 0], 1),
                            ([1, 2, 3, 4, 5, 6, 7, 0], -1), ([7, 0, 1, 2, 3, 4, 5, 6], -1),
                            ([1, 0, 2, 3, 4, 5, 6, 7], -1), ([2, 0, 1, 4, 3, 6, 7, 5], -1),
                            ([6, 5, 4, 3, 2, 1, 0], -1), ([5, 4, 3, 2, 1, 0], -1), ([3, 0, 1, 2], -1)]:
            rows = [[Fraction(k + 2, 3) if k == at else 0 for k in range(len(order))] for at in order]
            product = Fraction(1)
            for k in range(len(order)):
                product *= Fraction(k + 2, 3)
            self.check(rows, sign * product)

    def test_eight_rows(self):
        # The product of the differences of all points, and that of the differences by that of the sums.
        points, others = [Fraction(k * k + 1, k + 3) for k in range(8)], [Fraction(5 * k + 7, 2 ** k) for k in range(8)]
        powers, sums = Fraction(1), Fraction(1)
        for i in range(8):
            for k in range(8):
                sums /= points[i] + others[k]
                if i < k:
                    powers *= points[k] - points[i]
                    sums *= (points[k] - points[i]) * (others[k] - others[i])
        self.check([[point ** k for k in range(8)] for point in points], powers)
        self.check([[1 / (point + other) for other in others] for point in points], sums)

    def test_very_different_bottoms(self):
        rows = [[Fraction(1, 10 ** 30 + 8 * i + k) if i != k else Fraction(10 ** 30 - i, 7) for k in range(4)]
                for i in range(4)]
        self.check(rows, determinant_of(rows))
        self.check([[Fraction(1, 10 ** 30), 10 ** 30], [Fraction(-1, 10 ** 30), 10 ** 30]], 2)

    def test_a_sum_of_multiples_of_other_rows(self):
        for seed in range(40):
            many = 2 + seed % 7
            rows = rows_of(seed, many, many, bottoms=10 ** 12)
            parts = rows_of(seed + 1, 1, many, bottoms=7)[0]
            parts[seed % many] = Fraction(0)
            rows[seed % many] = sum_of(rows, parts)
            self.check(rows, 0)

    def test_exchanged_rows_and_multiples(self):
        for seed in range(20):
            many = 2 + seed % 7
            rows = rows_of(seed, many, many)
            found = determinant(ratios_of(rows))
            self.assertEqual(determinant(ratios_of([rows[1], rows[0]] + rows[2:])), -found)
            self.assertEqual(determinant(ratios_of([list(row) for row in zip(*rows)])), found)
            tripled = [[-3 * value for value in rows[0]]] + rows[1:]
            self.assertEqual(determinant(ratios_of(tripled)), found * Ratio(-3))

    def test_rows_that_are_not_as_many_as_their_ratios(self):
        for many, each in NOT_SQUARE:
            for value in (0, 1):
                check_error(self, InvalidRowsError, determinant, [[Ratio(value)] * each for _ in range(many)])

    def test_values_that_are_no_rows(self):
        for value in WRONG_ROWS:
            check_error(self, InvalidRowsError, determinant, value)

    def test_the_argument_by_name(self):
        self.assertEqual(pair(determinant(rows=[[Ratio(5)]])), (5, 1))

    def test_the_same_list_as_several_rows(self):
        row = [Ratio(1), Ratio(2)]
        self.assertEqual(pair(determinant([row, row])), (0, 1))


class Mixtures(unittest.TestCase):
    def check(self, rows, vessel, wanted):
        """Let a test fail unless a mixture is found exactly if it is wanted, and makes the row."""
        given = ratios_of(rows)
        found = stays(self, mixture_for, given, vessel)
        if not wanted:
            self.assertIs(found, None)
            return
        self.assertEqual([found.__class__, len(found)], [list, len(rows)])
        self.assertTrue(all(is_ratio(part) for part in found))
        self.assertEqual(pair(found[vessel]), (0, 1))
        self.assertEqual(sum_of(rows, fractions_of([found])[0]), rows[vessel])
        self.assertIs(stays(self, is_mixture_for, given, vessel, found), True)

    def test_small_ones(self):
        for rows, vessel, wanted in [
                ([[1, 2], [2, 4]], 0, True), ([[1, 2], [2, 4]], 1, True), ([[1, 2], [2, 5]], 0, False),
                ([[1, 2], [0, 0]], 1, True), ([[1, 2], [0, 0]], 0, False), ([[0, 0], [0, 0]], 0, True),
                ([[1, 2], [1, 2]], 0, True), ([[1], [2]], 0, True), ([[1], [2]], 1, True), ([[1], [0]], 0, False),
                ([[1, 0], [0, 1], [3, -4]], 2, True), ([[1, 0], [0, 1], [3, -4]], 0, True),
                ([[1, 0], [0, 1], [3, 0]], 1, False), ([[1, 0], [0, 1], [3, 0]], 2, True),
                ([[1, 0, 0], [0, 1, 0]], 0, False), ([[1, 2, 3], [2, 4, 6]], 1, True),
                ([[1, 2, 3], [2, 4, 7]], 1, False),
                ([[0, 1], [0, 2], [0, 3]], 1, True), ([[0, 1], [0, 2], [1, 3]], 2, False),
                ([[0, 0, 1], [0, 1, 0], [1, 0, 0], [1, 1, 1]], 3, True), ([[0, 1, 1], [0, 2, 3], [0, 4, 9]], 2, True)]:
            with self.subTest(rows, vessel=vessel):
                self.check(rows, vessel, wanted)

    def test_the_only_one(self):
        rows = ratios_of([[1, 2], [2, 4]])
        self.assertEqual(mixture_for(rows, 0), ratios_of([[0, "1/2"]])[0])
        self.assertEqual(mixture_for(rows, 1), ratios_of([[2, 0]])[0])
        rows = ratios_of([["1/2", 3], ["-3/2", 1], [7, "1/5"]])
        self.assertEqual(mixture_for(rows, 0), ratios_of([[0, "209/73", "50/73"]])[0])

    def test_one_row_alone(self):
        for row, wanted in [([0], True), ([1], False), ([0] * 8, True), ([0] * 7 + [1], False), ([1] + [0] * 7, False),
                            ([0, "-1/3", 0], False), ([0, 0], True)]:
            rows = ratios_of([row])
            self.assertEqual(mixture_for(rows, 0), [Ratio(0)] if wanted else None)
            self.assertIs(is_mixture_for(rows, 0, [Ratio(0)]), wanted)
            self.assertIs(is_mixture_for(rows, 0, [Ratio(1)]), False)
            self.assertIs(is_mixture_for(rows, 0, []), False)

    def test_rows_of_zeros(self):
        for many in range(1, 9):
            for each in (1, 2, 5, 8):
                for vessel in range(many):
                    self.check([[Fraction(0)] * each for _ in range(many)], vessel, True)
                    one = [[Fraction(int(k == vessel))] * each for k in range(many)]
                    self.check(one, vessel, False)
                    if many > 1:
                        self.check(one, (vessel + 1) % many, True)

    def test_equal_rows(self):
        for seed in range(20):
            many, each = 2 + seed % 7, 1 + seed % 8
            rows = rows_of(seed, many, each)
            rows[-1] = list(rows[0])
            self.check(rows, 0, True)
            self.check(rows, many - 1, True)

    def test_made_of_the_others(self):
        for seed in range(80):
            many, each = 2 + seed % 7, 1 + (seed // 7) % 8
            rows = rows_of(seed, many, each, most=(2, 9, 10 ** 30)[seed % 3], bottoms=(1, 7, 10 ** 30)[seed % 3])
            parts = rows_of(seed + 1, 1, many, bottoms=3)[0]
            vessel = seed % many
            parts[vessel] = Fraction(0)
            rows[vessel] = sum_of(rows, parts)
            self.check(rows, vessel, True)
            self.assertIs(is_mixture_for(ratios_of(rows), vessel, ratios_of([parts])[0]), True)

    def test_a_place_that_no_other_row_has(self):
        for seed in range(60):
            many, each = 1 + seed % 8, 2 + seed % 7
            rows, place, vessel = rows_of(seed, many, each), seed // 2 % each, seed % many
            for k in range(many):
                rows[k][place] = Fraction(int(k == vessel), 3)
            self.check(rows, vessel, False)

    def test_more_rows_than_ratios(self):
        # Any three rows of which no two are multiples of one another make every row of two ratios.
        for many in range(3, 9):
            for vessel in range(many):
                self.check([[Fraction(1), Fraction(k * k)] for k in range(many)], vessel, True)

    def test_rows_with_a_determinant(self):
        for seed in range(40):
            many = 1 + seed % 5
            rows = rows_of(seed, many, many, most=2, bottoms=1)
            found = [mixture_for(ratios_of(rows), vessel) for vessel in range(many)]
            self.assertEqual(all(parts is None for parts in found), determinant_of(rows) != 0)

    def test_none_behind_possible_transfers(self):
        for volumes, transfers in ALL:
            for rows in (shares_after(volumes, transfers), contents_after(volumes, transfers)):
                for vessel in range(len(volumes)):
                    self.assertIs(stays(self, mixture_for, rows, vessel), None)
                    self.assertIs(is_mixture_for(rows, vessel, [Ratio(0)] * len(volumes)), False)

    def test_a_row_of_contents_that_is_mixed_of_others(self):
        rows = contents_after(*LONGEST[2])
        rows[3] = [rows[0][k] * Ratio(-2, 7) + rows[6][k] * Ratio(10 ** 30, 9) for k in range(8)]
        wanted = ratios_of([["-2/7", 0, 0, 0, 0, 0, Fraction(10 ** 30, 9), 0]])[0]
        self.assertEqual(mixture_for(rows, 3), wanted)
        self.assertIs(is_mixture_for(rows, 3, wanted), True)
        self.assertIs(mixture_for(rows, 1), None)

    def test_the_list_is_new(self):
        rows = ratios_of([[0, 0], [0, 0]])
        found = mixture_for(rows, 0)
        found[1] = Ratio(5)
        self.assertEqual(mixture_for(rows, 0)[0], Ratio(0))
        self.assertEqual(rows, ratios_of([[0, 0], [0, 0]]))
        self.assertEqual(len({id(found), id(mixture_for(rows, 0))} | set(lists_within(rows))), 5)

    def test_arguments_by_name(self):
        rows = ratios_of([[1, 2], [2, 4]])
        self.assertEqual(mixture_for(vessel=0, rows=rows), ratios_of([[0, "1/2"]])[0])
        self.assertIs(is_mixture_for(value=ratios_of([[2, 0]])[0], vessel=1, rows=rows), True)


class Judging(unittest.TestCase):
    def check(self, rows, vessel, parts, wanted):
        given, value = ratios_of(rows), ratios_of([parts])[0]
        self.assertIs(stays(self, is_mixture_for, given, vessel, value), wanted)

    def test_small_ones(self):
        rows = [[1, 2], [2, 4], [0, 1]]
        for vessel, parts, wanted in [
                (0, [0, "1/2", 0], True), (0, [1, 0, 0], False), (0, [1, "1/2", 0], False),
                (0, ["1/2", "1/4", 0], False), (0, [0, "1/2", 1], False), (0, [0, 0, 0], False),
                (0, [0, "-1/2", 0], False), (1, [2, 0, 0], True),
                (1, [0, 1, 0], False), (1, [2, 0], False), (1, [2], False), (1, [2, 0, 0, 0], False), (1, [], False),
                (2, [2, -1, 0], False), (2, [2, -1, 1], False), (2, [0, 0, 1], False), (0, [0, 1, -2], False)]:
            with self.subTest(parts, vessel=vessel):
                self.check(rows, vessel, parts, wanted)

    def test_several_mixtures(self):
        rows = [[1, 2], [2, 4], [3, 6], [0, 0]]
        for parts, wanted in [([0, "1/2", 0, 0], True), ([0, 0, "1/3", 0], True), ([0, 2, -1, 0], True),
                              ([0, -1, 1, "-99/7"], True), ([0, 2, -1, 5], True), ([0, 2, 1, 5], False),
                              ([1, 0, 0, 5], False), ([1, 2, "-4/3", 0], False), ([0, 0, 0, 1], False)]:
            self.check(rows, 0, parts, wanted)
        self.check(rows, 3, [2, -1, 0, 0], True)
        self.check(rows, 3, [0, 0, 0, 0], True)
        self.check(rows, 3, [0, 0, 0, 1], False)
        self.check(rows, 3, [1, 0, 0, 0], False)

    def test_each_place_counts(self):
        for place in range(8):
            rows = [[1] * 8, [2] * 8]
            self.check(rows, 0, [0, "1/2"], True)
            rows[0][place] = 2
            self.check(rows, 0, [0, "1/2"], False)

    def test_any_value(self):
        rows = ratios_of([[1, 2], [2, 4]])
        for value in NO_LISTS + NOT_INTEGERS + WRONG_ROWS + [
                (Ratio(0), Ratio(1, 2)), ListBelow(ratios_of([[0, "1/2"]])[0]), [0, Ratio(1, 2)], [Ratio(0)],
                [Ratio(0), 1], [False, Ratio(1, 2)], [Ratio(0), Ratio(1, 2), Ratio(0)], [ratios_of([[0, "1/2"]])[0]],
                [Anything(), Ratio(1, 2)], [Ratio(0), Anything()], [Anything(), Anything()], {0: Ratio(1, 2)},
                [None, None], ["0", "1/2"], [[], []]] + [[Ratio(0), value] for value in NOT_RATIOS]:
            self.assertIs(stays(self, is_mixture_for, rows, 0, value), False)
        for value in NO_LISTS + WRONG_ROWS:
            self.assertIs(stays(self, is_mixture_for, [[Ratio(0)]], 0, value), False)

    def test_values_with_long_numbers(self):
        long = Ratio(10 ** 390 + 1, 10 ** 390)
        self.assertIs(is_mixture_for([[long], [long * long * long]], 1, [long * long, Ratio(0)]), True)
        self.assertIs(is_mixture_for([[long], [long * long * long]], 1, [long, Ratio(0)]), False)


class Faults(unittest.TestCase):
    def test_values_that_are_no_rows(self):
        for value in WRONG_ROWS:
            for vessel in (0, 1, 9, -1, True, None):
                check_error(self, InvalidRowsError, mixture_for, value, vessel)
                check_error(self, InvalidRowsError, is_mixture_for, value, vessel, [Ratio(0)])

    def test_values_that_are_no_vessels(self):
        for many, each in [(1, 1), (2, 2), (8, 3), (3, 8), (7, 7)]:
            rows = [[Ratio(0)] * each for _ in range(many)]
            for vessel in [many, many + 1, -1, -many, 10 ** 30, [0], (0,)] + NOT_INTEGERS:
                check_error(self, InvalidVesselError, mixture_for, rows, vessel)
                for value in ([Ratio(0)] * many, None, "abc"):
                    check_error(self, InvalidVesselError, is_mixture_for, rows, vessel, value)

    def test_all_vessels(self):
        for many in range(1, 9):
            rows = [[Ratio(0)] * 3 for _ in range(many)]
            for vessel in range(many):
                self.assertEqual(len(mixture_for(rows, vessel)), many)
                self.assertIs(is_mixture_for(rows, vessel, [Ratio(0)] * many), True)


if __name__ == "__main__":
    unittest.main()
