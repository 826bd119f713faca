"""Values that several tests pass where the document wants another kind."""

from fractions import Fraction

from stirred.ratios import Ratio


class Anything:
    """Says that it is equal to every value."""

    def __eq__(self, other):
        return True

    def __ne__(self, other):
        return False

    __hash__ = None


class ListBelow(list):
    """A list of another kind than list itself."""


class DictBelow(dict):
    """A dict of another kind than dict itself."""


NOT_INTEGERS = [True, False, None, 1.0, 0.5, float("nan"), "1", "", b"1", (1,), [1], {1: 1}, {1}, 1j,
                Fraction(1), Ratio(1), object(), int]

BIG = 10 ** 399 + 7


def pair(ratio):
    """Return top and bottom of a ratio."""
    return ratio.top, ratio.bottom


def pairs_of(mixture):
    """Return the substances of a mixture with tops and bottoms of their amounts."""
    return {substance: pair(mixture.amount_of(substance)) for substance in mixture.substances}
