"""The examples of the document, as they stand there."""

import doctest
import unittest

POINT_12 = """
>>> from stirred.ratios import Ratio, is_ratio, total
>>> one, other = Ratio(2, 3), Ratio(-6, 4)
>>> [other.top, other.bottom, (one + other) == Ratio(-5, 6), one * other == Ratio(-1), other.is_less(one), one.over(other) == Ratio(-4, 9)]
[-3, 2, True, True, True, True]
>>> [is_ratio(one), is_ratio(2), total([one, one, one]) == Ratio(2), Ratio(2) == 2]
[True, False, True, False]
"""

POINT_13 = """
>>> from stirred.mixtures import Mixture
>>> from stirred.ratios import Ratio
>>> one, other = Mixture({1: Ratio(2), 0: Ratio(1)}), Mixture({1: Ratio(1, 2)})
>>> [(one + other).volume == Ratio(7, 2), one.substances, one.share_of(0) == Ratio(1, 3), 2 in one, len(one * Ratio(0))]
[True, [0, 1], True, False, 0]
>>> [(one + other).amount_of(1) == Ratio(5, 2), one.amount_of(7) == Ratio(0)]
[True, True]
"""


class Examples(unittest.TestCase):
    def check(self, name, text, many):
        example = doctest.DocTestParser().get_doctest(text, {}, name, None, None)
        told = []
        found = doctest.DocTestRunner(verbose=False).run(example, out=told.append)
        self.assertEqual(found.failed, 0, "".join(told))
        self.assertEqual(found.attempted, many)

    def test_point_12(self):
        self.check("point 12", POINT_12, 4)

    def test_point_13(self):
        self.check("point 13", POINT_13, 5)


if __name__ == "__main__":
    unittest.main()
