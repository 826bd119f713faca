"""Values that several tests pass where the document wants another kind."""

from fractions import Fraction

from stirred.ratios import Ratio


class Anything:
    """Says that it is equal to every value."""

    def __eq__(self, other):
        return True

    def __ne__(self, other):
        return False

    __hash__ = None


class ListBelow(list):
    """A list of another kind than list itself."""


class DictBelow(dict):
    """A dict of another kind than dict itself."""


NOT_INTEGERS = [True, False, None, 1.0, 0.5, float("nan"), "1", "", b"1", (1,), [1], {1: 1}, {1}, 1j,
                Fraction(1), Ratio(1), object(), int]

BIG = 10 ** 399 + 7


def pair(ratio):
    """Return top and bottom of a ratio."""
    return ratio.top, ratio.bottom


def pairs_of(mixture):
    """Return the substances of a mixture with tops and bottoms of their amounts."""
    return {substance: pair(mixture.amount_of(substance)) for substance in mixture.substances}


def nested(many):
    """Return a list in a list in a list and so on."""
    value = []
    for _ in range(many):
        value = [value]
    return value


def frozen(value, depth=8):
    """Return a value as tuples, with the pair of each ratio, to see later whether it has changed."""
    if isinstance(value, Ratio):
        return pair(value)
    if isinstance(value, (list, tuple)):
        return value.__class__, tuple(frozen(item, depth - 1) for item in value) if depth else id(value)
    return value


def lists_within(rows):
    """Return the numbers of the objects that rows and the lists within them are."""
    return [id(rows)] + [id(row) for row in rows]


V = [3, 2]
T = [(0, 1, 1), (1, 0, 1)]

NO_LISTS = [None, True, 0, 1, 3.5, "", "3 2", b"3", (), (3, 2), {}, {3: 2}, {3, 2}, range(1, 3), ListBelow([3, 2]),
            ListBelow(), Ratio(3), Anything(), object(), list, float("nan")]

WRONG_VOLUMES = NO_LISTS + [
    [], [1] * 9, [2] * 400, [0], [0, 2], [3, 0], [3, -1], [-3], [10 ** 6 + 1], [3, 10 ** 6 + 1], [10 ** 30, 2],
    [[3, 2]], [[3], [2]], [(3,), 2], [3, [2]], [3, []], [None], [3, None], ["3", "2"], [Anything()], nested(20),
    nested(5000)] + [[3, value] for value in NOT_INTEGERS] + [[value, 3] for value in NOT_INTEGERS] + [
    [1] * k + [True] + [1] * (7 - k) for k in range(8)] + [[1] * k + [0] + [1] * (7 - k) for k in range(8)]

WRONG_TRANSFERS = NO_LISTS + [
    [(0, 1, 1)] * 25, [(0, 1, 1)] * 400, [[0, 1, 1]], [(0, 1, 1), [1, 0, 1]], (0, 1, 1), ((0, 1, 1),), [0, 1, 1],
    ((0, 1, 1), (1, 0, 1)), [((0, 1, 1),)], [[(0, 1, 1)]], [()], [(0,)], [(0, 1)], [(0, 1, 1, 1)], [(0, 1, 1), ()],
    [None], ["0>1:1"], "0>1:1", ["abc"], [{0: 1}], [{0, 1, 2}], [Anything()], [(0, 0, 1)], [(1, 1, 1)], [(7, 7, 1)],
    [(0, -1, 1)], [(-1, 0, 1)], [(0, 8, 1)], [(8, 0, 1)], [(0, 10 ** 30, 1)], [(0, 1, 0)], [(0, 1, -1)],
    [(0, 1, 10 ** 6 + 1)], [(0, 1, 10 ** 30)], [(0, 1, 1), (0, 0, 1)], [(0, 1, 1)] * 23 + [(0, 1, 0)],
    [(0, 1, [1])], [(0, (1,), 1)], [([0], 1, 1)], nested(20), nested(5000), [tuple(nested(20)) * 3]] + [
    [(value, 1, 1)] for value in NOT_INTEGERS] + [[(0, value, 1)] for value in NOT_INTEGERS] + [
    [(0, 1, value)] for value in NOT_INTEGERS] + [
    [(True, 0, 1)], [(False, 1, 1)], [(0, True, 1)], [(1, False, 1)], [(0, 1, True)], [(0, 1, 1), (1, 0, True)]]

# Transfers that are some, but not between two vessels.
FAR_TRANSFERS = [[(0, 2, 1)], [(2, 0, 1)], [(1, 7, 1)], [(7, 1, 1)], [(2, 3, 1)], [(0, 1, 1), (2, 1, 1)],
                 [(0, 1, 1)] * 23 + [(1, 2, 1)], [(0, 1, 9), (0, 2, 1)]]

# Transfers that volumes of 3 and 2 do not have the drops for, and the index of the first one that is too great.
TOO_MUCH = [([(0, 1, 3)], 0), ([(0, 1, 4)], 0), ([(1, 0, 2)], 0), ([(0, 1, 10 ** 6)], 0), ([(0, 1, 1), (0, 1, 2)], 1),
            ([(0, 1, 1), (1, 0, 3)], 1), ([(0, 1, 2), (1, 0, 3), (0, 1, 4)], 2), ([(0, 1, 1), (0, 1, 2), (1, 0, 9)], 1),
            ([(0, 1, 1), (1, 0, 1)] * 11 + [(0, 1, 2), (0, 1, 1)], 23), ([(0, 1, 3), (1, 0, 1)], 0)]
