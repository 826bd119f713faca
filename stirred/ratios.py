"""Ratios: exact fractions that never change."""

from math import gcd

from stirred.checks import is_whole
from stirred.errors import InvalidRatioError, ZeroRatioError


class Ratio:
    """A fraction in lowest terms; its bottom is at least 1."""

    def __init__(self, top, bottom=1):
        if not is_whole(top):
            raise InvalidRatioError("the top is not an integer")
        if not is_whole(bottom) or bottom < 1:
            raise InvalidRatioError("the bottom is not an integer from 1 on")
        common = gcd(top, bottom)
        self._top = top // common
        self._bottom = bottom // common

    @property
    def top(self):
        """The top in lowest terms, which has the sign."""
        return self._top

    @property
    def bottom(self):
        """The bottom in lowest terms."""
        return self._bottom

    def __eq__(self, other):
        return isinstance(other, Ratio) and self._top == other._top and self._bottom == other._bottom

    def __add__(self, other):
        if not isinstance(other, Ratio):
            return NotImplemented
        top = self._top * other._bottom + other._top * self._bottom
        return Ratio(top, self._bottom * other._bottom)

    def __sub__(self, other):
        if not isinstance(other, Ratio):
            return NotImplemented
        top = self._top * other._bottom - other._top * self._bottom
        return Ratio(top, self._bottom * other._bottom)

    def __mul__(self, other):
        if not isinstance(other, Ratio):
            return NotImplemented
        return Ratio(self._top * other._top, self._bottom * other._bottom)

    def __neg__(self):
        return Ratio(-self._top, self._bottom)

    def is_less(self, other):
        """Return whether this ratio is less than another one."""
        if not is_ratio(other):
            raise InvalidRatioError("the other value is not a ratio")
        return self._top * other._bottom < other._top * self._bottom

    def over(self, other):
        """Return the quotient of this ratio by another one."""
        if not is_ratio(other):
            raise InvalidRatioError("the other value is not a ratio")
        if other._top == 0:
            raise ZeroRatioError("a ratio is not divided by 0")
        top = self._top * other._bottom
        bottom = self._bottom * other._top
        # Only the top of a ratio may be below 0.
        if bottom < 0:
            return Ratio(-top, -bottom)
        return Ratio(top, bottom)


def is_ratio(value):
    """Return whether any value is a ratio."""
    return isinstance(value, Ratio)


def total(ratios):
    """Return the sum of a list of ratios, 0 for an empty one."""
    if type(ratios) is not list:
        raise InvalidRatioError("the ratios are not a list")
    found = Ratio(0)
    for ratio in ratios:
        if not is_ratio(ratio):
            raise InvalidRatioError("an item of the list is not a ratio")
        found = found + ratio
    return found
