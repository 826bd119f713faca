"""The examples of the document, as they stand there; ratios are compared where they would be written as text."""

import doctest
import unittest

POINT_12 = """
>>> from stirred.ratios import Ratio, is_ratio, total
>>> one, other = Ratio(2, 3), Ratio(-6, 4)
>>> [other.top, other.bottom, (one + other) == Ratio(-5, 6), one * other == Ratio(-1), other.is_less(one), one.over(other) == Ratio(-4, 9)]
[-3, 2, True, True, True, True]
>>> [is_ratio(one), is_ratio(2), total([one, one, one]) == Ratio(2), Ratio(2) == 2]
[True, False, True, False]
"""

POINT_13 = """
>>> from stirred.mixtures import Mixture
>>> from stirred.ratios import Ratio
>>> one, other = Mixture({1: Ratio(2), 0: Ratio(1)}), Mixture({1: Ratio(1, 2)})
>>> [(one + other).volume == Ratio(7, 2), one.substances, one.share_of(0) == Ratio(1, 3), 2 in one, len(one * Ratio(0))]
[True, [0, 1], True, False, 0]
>>> [(one + other).amount_of(1) == Ratio(5, 2), one.amount_of(7) == Ratio(0)]
[True, True]
"""

POINT_14 = """
>>> from stirred.ratios import Ratio
>>> from stirred.vessels import contents_after, is_possible, shares_after, volumes_after
>>> V, T = [3, 2], [(0, 1, 1), (1, 0, 1)]
>>> [volumes_after(V, T[:1]), is_possible(V, [(0, 1, 3)])]
[[2, 3], False]
>>> contents_after(V, T) == [[Ratio(7, 3), Ratio(2, 3)], [Ratio(2, 3), Ratio(4, 3)]]
True
>>> shares_after(V, T) == [[Ratio(7, 9), Ratio(2, 9)], [Ratio(1, 3), Ratio(2, 3)]]
True
"""

POINT_15 = """
>>> from stirred.factors import determinant, factor_of, is_mixture_for, mixture_for
>>> from stirred.ratios import Ratio
>>> from stirred.vessels import shares_after
>>> V, T = [3, 2], [(0, 1, 1), (1, 0, 1)]
>>> rows = [[Ratio(1), Ratio(2)], [Ratio(2), Ratio(4)]]
>>> [factor_of(V, T) == Ratio(4, 9), determinant(shares_after(V, T)) == Ratio(4, 9), determinant(rows) == Ratio(0)]
[True, True, True]
>>> [mixture_for(shares_after(V, T), 0), mixture_for(rows, 0) == [Ratio(0), Ratio(1, 2)], is_mixture_for(rows, 1, [Ratio(2), Ratio(0)])]
[None, True, True]
"""

POINT_16 = """
>>> from stirred.origins import is_origin, origin_of, poured
>>> from stirred.ratios import Ratio
>>> V, T = [3, 2], [(0, 1, 1), (1, 0, 1)]
>>> pure, half = [[Ratio(3), Ratio(0)], [Ratio(0), Ratio(2)]], [[Ratio(3, 2), Ratio(3, 2)], [Ratio(1), Ratio(1)]]
>>> poured(V, T, pure) == [[Ratio(7, 3), Ratio(2, 3)], [Ratio(2, 3), Ratio(4, 3)]]
True
>>> [origin_of(V, T, poured(V, T, pure)) == pure, origin_of(V, T, pure), origin_of(V, T, half) == half]
[True, None, True]
"""

POINT_17 = """
>>> from stirred.exchange import are_rings, foreign_in, is_closed, rings_of
>>> from stirred.ratios import Ratio
>>> V, T = [2, 2, 2], [(0, 1, 1), (1, 2, 1), (2, 0, 1)]
>>> [is_closed(V, T), foreign_in(V, T, [0]) == (Ratio(8, 9), Ratio(8, 9)), foreign_in(V, T[:1], [1]) == (Ratio(1), Ratio(0))]
[True, True, True]
>>> rings = [((0, 1, 2), Ratio(4, 9)), ((0, 1), Ratio(2, 9)), ((0, 2), Ratio(2, 9))]
>>> [are_rings(V, T, rings), are_rings(V, T, rings[:2]), are_rings(V, T, rings_of(V, T))]
[True, False, True]
"""

POINT_18 = """
>>> from stirred.spread import brought_by, fewest_for_all, plan_for_all, substances_in
>>> V, T = [2, 2, 2], [(0, 1, 1), (1, 2, 1)]
>>> [substances_in(V, T), brought_by(V, T, 2, 0), brought_by(V, T, 0, 1), fewest_for_all(3)]
[[[0], [0, 1], [0, 1, 2]], 1, None, 4]
>>> [len(plan_for_all(V)), substances_in(V, plan_for_all(V))]
[4, [[0, 1, 2], [0, 1, 2], [0, 1, 2]]]
"""

POINT_20 = """
>>> from stirred.alike import alike_rank, are_alike, are_free, count_alike, layers_of, least_alike, nth_alike
>>> T = [(2, 3, 1), (0, 1, 1), (1, 2, 1)]
>>> [are_free(T[0], T[1]), are_free(T[1], T[2]), layers_of(T), count_alike(T), alike_rank(T)]
[True, False, [[(0, 1, 1), (2, 3, 1)], [(1, 2, 1)]], 2, 1]
>>> [nth_alike(T, 0) == least_alike(T), least_alike(T), are_alike(T, T[::-1])]
[True, [(0, 1, 1), (2, 3, 1), (1, 2, 1)], False]
"""


class Examples(unittest.TestCase):
    def check(self, name, text, many):
        example = doctest.DocTestParser().get_doctest(text, {}, name, None, None)
        told = []
        found = doctest.DocTestRunner(verbose=False).run(example, out=told.append)
        self.assertEqual(found.failed, 0, "".join(told))
        self.assertEqual(found.attempted, many)

    def test_point_12(self):
        self.check("point 12", POINT_12, 4)

    def test_point_13(self):
        self.check("point 13", POINT_13, 5)

    def test_point_14(self):
        self.check("point 14", POINT_14, 6)

    def test_point_15(self):
        self.check("point 15", POINT_15, 7)

    def test_point_16(self):
        self.check("point 16", POINT_16, 6)

    def test_point_17(self):
        self.check("point 17", POINT_17, 6)

    def test_point_18(self):
        self.check("point 18", POINT_18, 4)

    def test_points_19_and_20(self):
        self.check("points 19 and 20", POINT_20, 4)


if __name__ == "__main__":
    unittest.main()
