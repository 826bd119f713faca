"""Pairs: two vessels, the difference between them, and the transfers that lead to a wanted one."""

from stirred.errors import InvalidRatioError, InvalidVolumesError
from stirred.factors import factor_of
from stirred.ratios import Ratio, is_ratio
from stirred.vessels import check_volumes

PAIR = 2


def difference_after(volumes, transfers):
    """Return the share of substance 0 in vessel 0 less that in vessel 1."""
    _check_pair(volumes)
    # The shares of two vessels add up to 1 each, so their determinant is this difference.
    return factor_of(volumes, transfers)


def plan_for(volumes, wanted):
    """Return the least scale of the volumes, and the amount to pour there and back, for a wanted difference."""
    _check_pair(volumes)
    if not is_ratio(wanted) or not _is_between(wanted):
        raise InvalidRatioError("the wanted difference is not a ratio greater than 0 and less than 1")
    one, other = Ratio(volumes[0]), Ratio(volumes[1])
    amount = (one * other * (Ratio(1) - wanted)).over(other + wanted * one)
    # The bottom is the least number that makes an integer of the amount.
    return amount.bottom, amount.top


def _is_between(ratio):
    """Return whether a ratio is greater than 0 and less than 1."""
    return Ratio(0).is_less(ratio) and ratio.is_less(Ratio(1))


def _check_pair(volumes):
    """Raise an error unless a value is two volumes."""
    check_volumes(volumes)
    if len(volumes) != PAIR:
        raise InvalidVolumesError("there are not exactly two volumes")
