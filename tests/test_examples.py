"""The examples of the document, as they stand there."""

import doctest
import unittest

POINT_12 = """
>>> from stirred.ratios import Ratio, is_ratio, total
>>> one, other = Ratio(2, 3), Ratio(-6, 4)
>>> [other.top, other.bottom, (one + other) == Ratio(-5, 6), one * other == Ratio(-1), other.is_less(one), one.over(other) == Ratio(-4, 9)]
[-3, 2, True, True, True, True]
>>> [is_ratio(one), is_ratio(2), total([one, one, one]) == Ratio(2), Ratio(2) == 2]
[True, False, True, False]
"""

POINT_13 = """
>>> from stirred.mixtures import Mixture
>>> from stirred.ratios import Ratio
>>> one, other = Mixture({1: Ratio(2), 0: Ratio(1)}), Mixture({1: Ratio(1, 2)})
>>> [(one + other).volume == Ratio(7, 2), one.substances, one.share_of(0) == Ratio(1, 3), 2 in one, len(one * Ratio(0))]
[True, [0, 1], True, False, 0]
>>> [(one + other).amount_of(1) == Ratio(5, 2), one.amount_of(7) == Ratio(0)]
[True, True]
"""

POINT_14 = """
>>> from stirred.text import format_rows
>>> from stirred.vessels import contents_after, is_possible, shares_after, volumes_after
>>> V, T = [3, 2], [(0, 1, 1), (1, 0, 1)]
>>> [volumes_after(V, T[:1]), format_rows(contents_after(V, T)), format_rows(shares_after(V, T)), is_possible(V, [(0, 1, 3)])]
[[2, 3], ['7/3 2/3', '2/3 4/3'], ['7/9 2/9', '1/3 2/3'], False]
"""

POINT_15 = """
>>> from stirred.factors import determinant, factor_of, is_mixture_for, mixture_for
>>> from stirred.ratios import Ratio
>>> from stirred.vessels import shares_after
>>> V, T = [3, 2], [(0, 1, 1), (1, 0, 1)]
>>> rows = [[Ratio(1), Ratio(2)], [Ratio(2), Ratio(4)]]
>>> [factor_of(V, T) == Ratio(4, 9), determinant(shares_after(V, T)) == Ratio(4, 9), determinant(rows) == Ratio(0)]
[True, True, True]
>>> [mixture_for(shares_after(V, T), 0), mixture_for(rows, 0) == [Ratio(0), Ratio(1, 2)], is_mixture_for(rows, 1, [Ratio(2), Ratio(0)])]
[None, True, True]
"""

POINT_16 = """
>>> from stirred.origins import is_origin, origin_of, poured
>>> from stirred.ratios import Ratio
>>> from stirred.text import format_rows
>>> V, T = [3, 2], [(0, 1, 1), (1, 0, 1)]
>>> pure, half = [[Ratio(3), Ratio(0)], [Ratio(0), Ratio(2)]], [[Ratio(3, 2), Ratio(3, 2)], [Ratio(1), Ratio(1)]]
>>> [format_rows(poured(V, T, pure)), origin_of(V, T, poured(V, T, pure)) == pure, origin_of(V, T, pure), origin_of(V, T, half) == half]
[['7/3 2/3', '2/3 4/3'], True, None, True]
"""

POINT_17 = """
>>> from stirred.exchange import are_rings, foreign_in, is_closed, rings_of
>>> from stirred.ratios import Ratio
>>> V, T = [2, 2, 2], [(0, 1, 1), (1, 2, 1), (2, 0, 1)]
>>> [is_closed(V, T), foreign_in(V, T, [0]) == (Ratio(8, 9), Ratio(8, 9)), foreign_in(V, T[:1], [1]) == (Ratio(1), Ratio(0))]
[True, True, True]
>>> rings = [((0, 1, 2), Ratio(4, 9)), ((0, 1), Ratio(2, 9)), ((0, 2), Ratio(2, 9))]
>>> [are_rings(V, T, rings), are_rings(V, T, rings[:2]), are_rings(V, T, rings_of(V, T))]
[True, False, True]
"""

POINT_18 = """
>>> from stirred.spread import brought_by, fewest_for_all, plan_for_all, substances_in
>>> V, T = [2, 2, 2], [(0, 1, 1), (1, 2, 1)]
>>> [substances_in(V, T), brought_by(V, T, 2, 0), brought_by(V, T, 0, 1), fewest_for_all(3)]
[[[0], [0, 1], [0, 1, 2]], 1, None, 4]
>>> [len(plan_for_all(V)), substances_in(V, plan_for_all(V))]
[4, [[0, 1, 2], [0, 1, 2], [0, 1, 2]]]
"""

POINT_20 = """
>>> from stirred.alike import alike_rank, are_alike, are_free, count_alike, layers_of, least_alike, nth_alike
>>> T = [(2, 3, 1), (0, 1, 1), (1, 2, 1)]
>>> [are_free(T[0], T[1]), are_free(T[1], T[2]), layers_of(T), count_alike(T), alike_rank(T)]
[True, False, [[(0, 1, 1), (2, 3, 1)], [(1, 2, 1)]], 2, 1]
>>> [nth_alike(T, 0) == least_alike(T), least_alike(T), are_alike(T, T[::-1])]
[True, [(0, 1, 1), (2, 3, 1), (1, 2, 1)], False]
"""

POINT_21 = """
>>> from stirred.pairs import difference_after, plan_for
>>> from stirred.ratios import Ratio
>>> V, T = [3, 2], [(0, 1, 1), (1, 0, 1)]
>>> [difference_after(V, T) == Ratio(4, 9), plan_for(V, Ratio(4, 9)), plan_for(V, Ratio(1, 2))]
[True, (1, 1), (7, 6)]
"""

POINT_23 = """
>>> from stirred.labs import CappedSealedLab, Lab
>>> from stirred.ratios import Ratio
>>> lab = Lab([3, 2])
>>> [lab.pour(0, 1, 1), lab.pour(1, 0, 1), lab.factor == Ratio(4, 9), lab.tried((0, 1, 2)), lab.holds(0).share_of(1) == Ratio(2, 9)]
[3, 3, True, [1, 4], True]
>>> [lab.undo(), lab.volumes, lab.done, len(lab), CappedSealedLab([3, 2, 1], 5, [2]).described()]
[None, [2, 3], [(0, 1, 1)], 1, ['vessels 3', 'cap 5', 'sealed 1']]
"""

POINT_24 = """
>>> from stirred.labs import Lab
>>> from stirred.trials import Trial, passed, volumes_in_trial
>>> lab = Lab([3, 2])
>>> trial = Trial(lab)
>>> [trial.begin() == lab, lab.pour(0, 1, 2), trial.finish(), lab.volumes]
[True, 4, [(0, 1, 2)], [3, 2]]
>>> [volumes_in_trial(lab, [(0, 1, 1), (1, 0, 2)]), passed(lab, [(0, 1, 2), (0, 1, 1)]), len(lab)]
[[4, 1], 1, 0]
"""

POINT_25 = """
>>> from stirred.ratios import Ratio
>>> from stirred.text import format_ratio, format_transfers, parse_ratio, parse_transfers, table_of
>>> [format_ratio(Ratio(-6, 4)), parse_ratio("7/3") == Ratio(7, 3), format_transfers([(0, 1, 12)]), parse_transfers("0>1:1 1>0:2")]
['-3/2', True, '0>1:12', [(0, 1, 1), (1, 0, 2)]]
>>> table_of([3, 2], [(0, 1, 1), (1, 0, 1)])
[' 0  0  1       1       2       3', ' 1  1  0       1       2       3']
"""


class Examples(unittest.TestCase):
    def check(self, name, text, many):
        example = doctest.DocTestParser().get_doctest(text, {}, name, None, None)
        told = []
        found = doctest.DocTestRunner(verbose=False).run(example, out=told.append)
        self.assertEqual(found.failed, 0, "".join(told))
        self.assertEqual(found.attempted, many)

    def test_point_12(self):
        self.check("point 12", POINT_12, 4)

    def test_point_13(self):
        self.check("point 13", POINT_13, 5)

    def test_point_14(self):
        self.check("point 14", POINT_14, 4)

    def test_point_15(self):
        self.check("point 15", POINT_15, 7)

    def test_point_16(self):
        self.check("point 16", POINT_16, 6)

    def test_point_17(self):
        self.check("point 17", POINT_17, 6)

    def test_point_18(self):
        self.check("point 18", POINT_18, 4)

    def test_points_19_and_20(self):
        self.check("points 19 and 20", POINT_20, 4)

    def test_point_21(self):
        self.check("point 21", POINT_21, 4)

    def test_points_22_and_23(self):
        self.check("points 22 and 23", POINT_23, 5)

    def test_point_24(self):
        self.check("point 24", POINT_24, 6)

    def test_point_25(self):
        self.check("point 25", POINT_25, 4)


if __name__ == "__main__":
    unittest.main()
