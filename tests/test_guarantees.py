"""Point 2: what holds for all vessels and all transfers."""

import unittest
from fractions import Fraction
from itertools import product

from stirred.factors import determinant, factor_of, is_mixture_for, mixture_for
from stirred.ratios import Ratio
from stirred.vessels import contents_after, is_possible, shares_after, walk_contents
from tests.model import ALL, case
from tests.values import frozen

ONE_BY_ONE = [(0, 1, 1), (1, 0, 1), (0, 1, 2), (1, 0, 2), (1, 2, 1), (2, 1, 2), (2, 0, 1), (0, 2, 3)]


def all_small_ones():
    """Return all possible lists of three transfers out of a few between small volumes."""
    return [(volumes, list(transfers)) for volumes in ([2, 2, 2], [3, 2, 1], [1, 5, 2])
            for transfers in product(ONE_BY_ONE, repeat=3) if is_possible(volumes, list(transfers))]


class Guarantees(unittest.TestCase):
    def test_there_are_small_ones(self):
        self.assertGreater(len(all_small_ones()), 150)

    def test_no_vessel_holds_a_mixture_of_the_other_ones(self):
        for volumes, transfers in all_small_ones()[::7] + ALL[::6]:
            rows = contents_after(volumes, transfers)
            for vessel in range(len(volumes)):
                self.assertIs(mixture_for(rows, vessel), None)

    def test_no_two_vessels_have_equal_shares(self):
        for volumes, transfers in all_small_ones() + ALL:
            shares = [frozen(row) for row in shares_after(volumes, transfers)]
            self.assertEqual(len(set(shares)), len(volumes))

    def test_the_greater_share_stays_the_greater_one(self):
        cases = [case(seed, 2, 24, (2, 7, 1000, 10 ** 6)[seed % 4]) for seed in range(30)]
        for volumes, transfers in cases:
            for rows in walk_contents(volumes, transfers):
                shares = [[amount.over(row[0] + row[1]) for amount in row] for row in rows]
                self.assertTrue(shares[1][0].is_less(shares[0][0]))
                self.assertTrue(shares[0][1].is_less(shares[1][1]))

    def test_the_determinant_is_the_factor(self):
        for volumes, transfers in all_small_ones():
            self.assertEqual(determinant(shares_after(volumes, transfers)), factor_of(volumes, transfers))

    def test_the_factor_falls_and_stays_above_0(self):
        for volumes, transfers in ALL + all_small_ones()[::5]:
            factors = [factor_of(volumes, transfers[:k]) for k in range(len(transfers) + 1)]
            self.assertEqual(factors[0], Ratio(1))
            for later, earlier in zip(factors[1:], factors):
                self.assertTrue(later.is_less(earlier))
                self.assertTrue(Ratio(0).is_less(later))

    def test_no_state_ever_comes_back(self):
        for volumes, transfers in ALL + all_small_ones()[::5]:
            states = [frozen(rows) for rows in walk_contents(volumes, transfers)]
            self.assertEqual(len(set(states)), len(transfers) + 1)

    def test_the_determinant_of_the_contents(self):
        for volumes, transfers in ALL:
            wanted = Fraction(1)
            for row in contents_after(volumes, transfers):
                volume = row[0]
                for amount in row[1:]:
                    volume = volume + amount
                wanted *= volume.top
            found = determinant(contents_after(volumes, transfers))
            factor = factor_of(volumes, transfers)
            self.assertEqual(Fraction(found.top, found.bottom), wanted * Fraction(factor.top, factor.bottom))

    def test_a_mixture_that_was_there_would_be_told(self):
        rows = contents_after([2, 2, 2], ONE_BY_ONE[:2])
        rows[2] = [one + other for one, other in zip(rows[0], rows[1])]
        self.assertIs(is_mixture_for(rows, 2, [Ratio(1), Ratio(1), Ratio(0)]), True)
        self.assertEqual(determinant(rows), Ratio(0))


if __name__ == "__main__":
    unittest.main()
