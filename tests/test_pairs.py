"""Point 21: two vessels, their difference, and the plan for a wanted one."""

import unittest
from fractions import Fraction
from math import gcd

from stirred.errors import InvalidRatioError, InvalidTransfersError, InvalidVolumesError, TooMuchError
from stirred.factors import factor_of, mixture_for
from stirred.mixtures import Mixture
from stirred.pairs import difference_after, plan_for
from stirred.ratios import Ratio
from stirred.vessels import is_possible, is_volumes, shares_after
from tests.faults import check_error, check_too_much, check_volumes, stays
from tests.model import MILLION, Numbers, case, shares_behind
from tests.values import FAR_TRANSFERS, NOT_INTEGERS, T, V, WRONG_TRANSFERS, WRONG_VOLUMES, Anything, nested, pair

PAIRS = [case(seed, 2, seed % 25, (2, 7, 1000, MILLION)[seed % 4]) for seed in range(50)]

OTHER_VOLUMES = [[3], [1], [3, 2, 2], [1, 1, 1], [2] * 8, [MILLION] * 3]

NOT_BETWEEN = [Ratio(0), Ratio(1), Ratio(2), Ratio(-1), Ratio(-1, 2), Ratio(3, 2), Ratio(10 ** 30 + 1, 10 ** 30),
               Ratio(-1, 10 ** 30), Ratio(10 ** 30), Ratio(-10 ** 30)]

NO_RATIOS = [value for value in NOT_INTEGERS if not isinstance(value, Ratio)] + [
    0, 1, -1, "1/2", (1, 2), [Ratio(1, 2)], (Ratio(1, 2),), Mixture({0: Ratio(1, 2)}), Fraction(1, 2), Anything(),
    nested(5000)]

# Very near to 0 and to 1, with tops and bottoms of 31 digits among them.
WANTED = [Fraction(1, 2), Fraction(4, 9), Fraction(1, 3), Fraction(99, 100), Fraction(1, 100),
          Fraction(1, 10 ** 31 - 1), Fraction(10 ** 31 - 2, 10 ** 31 - 1), Fraction(10 ** 30 + 7, 9 * 10 ** 30 + 1), Fraction(3, 10 ** 30 + 3),
          Fraction(MILLION - 1, MILLION), Fraction(1, MILLION), Fraction(123456789, 987654321)]


class Differences(unittest.TestCase):
    def test_of_the_document(self):
        self.assertEqual(stays(self, difference_after, V, T), Ratio(4, 9))

    def test_small_ones(self):
        for volumes, transfers, wanted in [([3, 2], [], (1, 1)), ([1, 1], [], (1, 1)), ([3, 2], T[:1], (2, 3)),
                                           ([3, 2], T[1:], (3, 4)), ([2, 2], [(0, 1, 1)], (2, 3)),
                                           ([2, 2], [(0, 1, 1), (1, 0, 1)], (1, 3)),
                                           ([2, 3], [(1, 0, 1), (0, 1, 1)], (4, 9))]:
            self.assertEqual(pair(difference_after(volumes, transfers)), wanted)

    def test_many(self):
        for volumes, transfers in PAIRS:
            found = stays(self, difference_after, volumes, transfers)
            shares = shares_behind(volumes, transfers)
            self.assertEqual(Fraction(found.top, found.bottom), shares[0][0] - shares[1][0])

    def test_it_is_the_factor_and_the_shares_less_one_another(self):
        for volumes, transfers in PAIRS:
            found = difference_after(volumes, transfers)
            shares = shares_after(volumes, transfers)
            self.assertEqual(found, factor_of(volumes, transfers))
            self.assertEqual(found, shares[0][0] - shares[1][0])
            self.assertEqual(found, shares[1][1] - shares[0][1])

    def test_it_falls_and_stays_above_0(self):
        for volumes, transfers in PAIRS:
            found = [difference_after(volumes, transfers[:k]) for k in range(len(transfers) + 1)]
            self.assertEqual(found[0], Ratio(1))
            for earlier, later in zip(found, found[1:]):
                self.assertTrue(later.is_less(earlier))
                self.assertTrue(Ratio(0).is_less(later))

    def test_the_vessels_exchanged(self):
        for volumes, transfers in PAIRS:
            turned = [(1 - giver, 1 - taker, amount) for giver, taker, amount in transfers]
            self.assertEqual(difference_after(volumes[::-1], turned), difference_after(volumes, transfers))

    def test_neither_vessel_is_a_mixture_of_the_other_one(self):
        for volumes, transfers in PAIRS[::5]:
            self.assertEqual([mixture_for(shares_after(volumes, transfers), k) for k in range(2)], [None, None])

    def test_lists_that_the_caller_changes(self):
        volumes, transfers = [3, 2], list(T)
        self.assertEqual(difference_after(volumes, transfers), Ratio(4, 9))
        transfers.pop()
        self.assertEqual(difference_after(volumes, transfers), Ratio(2, 3))
        volumes[1] = 1
        self.assertEqual(difference_after(volumes, transfers), Ratio(1, 2))


class Plans(unittest.TestCase):
    def check(self, volumes, wanted):
        found = stays(self, plan_for, volumes, Ratio(wanted.numerator, wanted.denominator))
        self.assertEqual((found.__class__, len(found)), (tuple, 2))
        scale, amount = found
        self.assertEqual([scale.__class__, amount.__class__], [int, int])
        self.assertTrue(scale >= 1 and amount >= 1)
        a, b = volumes
        self.assertEqual(Fraction(amount), scale * a * b * (1 - wanted) / (b + wanted * a))
        # A smaller scale that does it would divide both.
        self.assertEqual(gcd(scale, amount), 1)
        # The shares behind both transfers, reckoned with fractions.
        x, y, t = Fraction(scale * a), Fraction(scale * b), Fraction(amount)
        in_taker = t / (y + t)
        back = ((x - t) + t * in_taker) / x
        self.assertEqual(back - in_taker, wanted)
        return scale, amount

    def test_of_the_document(self):
        self.assertEqual(stays(self, plan_for, V, Ratio(4, 9)), (1, 1))
        self.assertEqual(stays(self, plan_for, V, Ratio(1, 2)), (7, 6))

    def test_small_ones(self):
        for volumes, wanted, found in [([1, 1], Ratio(1, 3), (2, 1)), ([2, 2], Ratio(1, 3), (1, 1)),
                                       ([4, 4], Ratio(1, 3), (1, 2)), ([6, 2], Ratio(1, 9), (1, 4)),
                                       ([10, 10], Ratio(1, 2), (3, 10)), ([1, 3], Ratio(3, 8), (9, 5))]:
            self.assertEqual(plan_for(volumes, wanted), found)

    def test_near_to_0_and_to_1(self):
        for wanted in WANTED:
            for volumes in ([1, 1], [3, 2], [1, MILLION], [MILLION, 1], [999983, 999979], [MILLION, MILLION], [2, 8]):
                self.check(volumes, wanted)

    def test_far_above_a_million(self):
        scale, amount = self.check([999983, 999979], Fraction(10 ** 30 + 7, 9 * 10 ** 30 + 1))
        self.assertGreater(min(scale, amount), 10 ** 30)

    def test_many(self):
        numbers = Numbers(41)
        for at in range(200):
            most = (4, 30, 1000, MILLION)[at % 4]
            bottom = numbers.between(2, (5, 100, 10 ** 9)[at % 3])
            self.check([numbers.between(1, most), numbers.between(1, most)],
                       Fraction(numbers.between(1, bottom - 1), bottom))

    def test_the_least_scale(self):
        for a in range(1, 6):
            for b in range(1, 6):
                for wanted in (Fraction(1, 2), Fraction(1, 3), Fraction(2, 3), Fraction(3, 7), Fraction(9, 10)):
                    scale, _ = self.check([a, b], wanted)
                    for less in range(1, scale):
                        self.assertNotEqual((less * a * b * (1 - wanted) / (b + wanted * a)).denominator, 1)

    def test_the_transfers_do_it(self):
        seen = 0
        for volumes in ([3, 2], [1, 1], [5, 7], [1000, 1], [1, 1000], [64, 48]):
            for wanted in (Ratio(1, 2), Ratio(4, 9), Ratio(1, 3), Ratio(99, 100), Ratio(1, 100), Ratio(5, 12)):
                scale, amount = plan_for(volumes, wanted)
                scaled, transfers = [scale * volume for volume in volumes], [(0, 1, amount), (1, 0, amount)]
                if is_volumes(scaled):
                    self.assertIs(is_possible(scaled, transfers), True)
                    self.assertEqual(difference_after(scaled, transfers), wanted)
                    seen += 1
        self.assertGreater(seen, 20)

    def test_back_from_a_difference(self):
        for volumes in ([3, 2], [9, 9], [MILLION, 3], [7, 100]):
            for amount in range(1, min(volumes[0], 8)):
                wanted = difference_after(volumes, [(0, 1, amount), (1, 0, amount)])
                self.assertEqual(plan_for(volumes, wanted), (1, amount))

    def test_differences_of_any_size(self):
        # What the package returned may be passed back, however long its numbers are.
        for volumes, transfers in PAIRS:
            if transfers:
                found = difference_after(volumes, transfers)
                self.check([3, 2], Fraction(found.top, found.bottom))


class Faults(unittest.TestCase):
    def test_volumes_and_transfers(self):
        check_volumes(self, difference_after)
        for transfers in WRONG_TRANSFERS + FAR_TRANSFERS:
            check_error(self, InvalidTransfersError, difference_after, V, transfers)
        check_too_much(self, difference_after)

    def test_exactly_two_volumes(self):
        for volumes in OTHER_VOLUMES:
            for transfers in ([], T, [(0, 1, 1)], [(0, 1, 10 ** 6)], None):
                check_error(self, InvalidVolumesError, difference_after, volumes, transfers)
            for wanted in (Ratio(1, 2), Ratio(2), None):
                check_error(self, InvalidVolumesError, plan_for, volumes, wanted)

    def test_volumes_of_a_plan(self):
        for volumes in WRONG_VOLUMES:
            for wanted in (Ratio(1, 2), Ratio(1), None):
                check_error(self, InvalidVolumesError, plan_for, volumes, wanted)

    def test_vessels_beyond_1(self):
        for transfers in ([(0, 2, 1)], [(2, 1, 1)], [(7, 6, 1)], T + [(1, 2, 1)], [(0, 1, 9), (0, 2, 1)]):
            check_error(self, InvalidTransfersError, difference_after, V, transfers)
        check_error(self, TooMuchError, difference_after, V, [(0, 1, 9), (1, 0, 1)])

    def test_wanted(self):
        for wanted in NOT_BETWEEN + NO_RATIOS:
            for volumes in (V, [1, 1], [MILLION, 1]):
                check_error(self, InvalidRatioError, plan_for, volumes, wanted)

    def test_arguments_by_name(self):
        self.assertEqual(difference_after(transfers=T, volumes=V), Ratio(4, 9))
        self.assertEqual(plan_for(wanted=Ratio(1, 2), volumes=V), (7, 6))


if __name__ == "__main__":
    unittest.main()
