"""Mixtures: amounts of substances that never change."""

from stirred.checks import is_whole_within
from stirred.errors import InvalidMixtureError, InvalidRatioError, InvalidSubstanceError
from stirred.ratios import Ratio, is_ratio, total

LAST_SUBSTANCE = 7


class Mixture:
    """The amounts of some substances, each one greater than 0."""

    def __init__(self, amounts):
        _check_amounts(amounts)
        # A copy in ascending order: the order of the keys that came in means nothing.
        self._amounts = {k: amounts[k] for k in range(LAST_SUBSTANCE + 1) if k in amounts}

    @property
    def volume(self):
        """The sum of the amounts."""
        return total(list(self._amounts.values()))

    @property
    def substances(self):
        """The ascending list of the substances, a new one each time."""
        return list(self._amounts)

    def __len__(self):
        return len(self._amounts)

    def __contains__(self, x):
        # A value that is no substance may have no hash, or be equal to one, like True.
        return _is_substance(x) and x in self._amounts

    def __eq__(self, other):
        return isinstance(other, Mixture) and self._amounts == other._amounts

    def __add__(self, other):
        if not isinstance(other, Mixture):
            return NotImplemented
        amounts = dict(self._amounts)
        for substance in other.substances:
            amounts[substance] = self.amount_of(substance) + other.amount_of(substance)
        return Mixture(amounts)

    def __mul__(self, other):
        if not is_ratio(other) or other.top < 0:
            raise InvalidRatioError("a mixture is multiplied by a ratio from 0 on")
        # A mixture keeps no amounts of 0.
        if other.top == 0:
            return Mixture({})
        return Mixture({k: amount * other for k, amount in self._amounts.items()})

    def amount_of(self, substance):
        """Return the amount of a substance, 0 for one that the mixture does not have."""
        if not _is_substance(substance):
            raise InvalidSubstanceError("a substance is an integer from 0 to 7")
        if substance in self._amounts:
            return self._amounts[substance]
        return Ratio(0)

    def share_of(self, substance):
        """Return the amount of a substance divided by the volume."""
        # An empty mixture has the volume 0, by which no ratio is divided.
        return self.amount_of(substance).over(self.volume)


def _is_substance(value):
    """Return whether any value is a substance."""
    return is_whole_within(value, 0, LAST_SUBSTANCE)


def _check_amounts(amounts):
    """Raise an error unless a value is the amounts of a mixture."""
    if type(amounts) is not dict:
        raise InvalidMixtureError("the amounts are not a dict")
    for substance, amount in amounts.items():
        if not _is_substance(substance):
            raise InvalidMixtureError("a substance is not an integer from 0 to 7")
        if not is_ratio(amount) or amount.top < 1:
            raise InvalidMixtureError("an amount is not a ratio greater than 0")
