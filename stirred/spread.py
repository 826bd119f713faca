"""Spread: which substances reach which vessel, and how few transfers bring all to all."""

from stirred.checks import is_whole_within
from stirred.errors import InvalidNumberError, InvalidSubstanceError, TooSmallError
from stirred.vessels import MOST_VESSELS, check_vessel, check_volumes, walk_contents


def substances_in(volumes, transfers):
    """Return the list of the ascending lists of the substances that the vessels hold behind the transfers."""
    return _substances_by_step(volumes, transfers)[-1]


def brought_by(volumes, transfers, vessel, substance):
    """Return the index of the transfer with which a vessel first held a foreign substance, or None."""
    steps = _substances_by_step(volumes, transfers)
    check_vessel(vessel, len(volumes))
    _check_substance(substance, len(volumes))
    if vessel == substance:
        return None
    for index, held in enumerate(steps[1:]):
        if substance in held[vessel]:
            return index
    return None


def fewest_for_all(vessels):
    """Return the fewest transfers with which so many vessels all hold all substances."""
    if not is_whole_within(vessels, 1, MOST_VESSELS):
        raise InvalidNumberError("there are 1 to 8 vessels")
    return 2 * vessels - 2


def plan_for_all(volumes):
    """Return as few possible transfers as can be, behind which all vessels hold all substances."""
    check_volumes(volumes)
    if len(volumes) > 1 and min(volumes) == 1:
        raise TooSmallError("a vessel with one drop has none to give")
    # Drop by drop, all substances are collected from the first vessel to the last one and brought back again.
    # Each other vessel gives a drop when it has just got one, so two drops at first are enough for the giver.
    neighbors = [(vessel, vessel + 1) for vessel in range(len(volumes) - 1)]
    there = [(giver, taker, 1) for giver, taker in neighbors]
    back = [(giver, taker, 1) for taker, giver in reversed(neighbors)]
    return there + back


def _substances_by_step(volumes, transfers):
    """Return the list of what the vessels hold at first and behind each transfer: lists of substances."""
    return [[_substances_of(row) for row in contents] for contents in walk_contents(volumes, transfers)]


def _substances_of(row):
    """Return the ascending list of the substances of which a vessel holds these amounts."""
    return [substance for substance, amount in enumerate(row) if amount.top > 0]


def _check_substance(substance, many):
    """Raise an error unless a value is the number of one of so many vessels."""
    if not is_whole_within(substance, 0, many - 1):
        raise InvalidSubstanceError("the substance is not the number of a vessel")
