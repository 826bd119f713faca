"""Exchange: what groups of vessels got and lost, and the rings in which vessels gave to one another."""

from stirred.checks import is_list_within
from stirred.errors import NotClosedError
from stirred.ratios import Ratio, is_ratio, total
from stirred.rows import copy_of
from stirred.vessels import are_different_vessels, check_group, contents_after, volumes_after

LEAST_IN_RING = 2
# As many as there are ways from one vessel to another one: each ring that is found ends one of them at least.
MOST_RINGS = 56


def foreign_in(volumes, transfers, group):
    """Return what a group holds of foreign substances, and what of its own ones stands in other vessels."""
    contents = contents_after(volumes, transfers)
    check_group(group, len(volumes))
    others = [vessel for vessel in range(len(volumes)) if vessel not in group]
    got = total([contents[vessel][substance] for vessel in group for substance in others])
    lost = total([contents[vessel][substance] for vessel in others for substance in group])
    return got, lost


def is_closed(volumes, transfers):
    """Return whether all volumes behind the transfers are as at first."""
    return volumes_after(volumes, transfers) == volumes


def rings_of(volumes, transfers):
    """Return rings with amounts that add up to all that was exchanged."""
    rest = _given(volumes, transfers)
    rings = []
    ring = _ring_in(rest)
    while ring is not None:
        amount = _least([rest[giver][taker] for giver, taker in _steps_of(ring)])
        rings.append((ring, amount))
        rest = _without(rest, ring, amount)
        ring = _ring_in(rest)
    return rings


def are_rings(volumes, transfers, value):
    """Return whether any value is rings with amounts that add up to all that was exchanged."""
    rest = _given(volumes, transfers)
    if not is_list_within(value, 0, MOST_RINGS) or not all([_is_item(item, len(volumes)) for item in value]):
        return False
    for ring, amount in value:
        rest = _without(rest, ring, amount)
    return all([ratio == Ratio(0) for row in rest for ratio in row])


def _given(volumes, transfers):
    """Return what each vessel gave to each one of closed transfers: a row for each giver, 0 for itself."""
    contents = contents_after(volumes, transfers)
    if not is_closed(volumes, transfers):
        raise NotClosedError("not all volumes are as at first")
    vessels = range(len(volumes))
    return [[Ratio(0) if taker == giver else contents[taker][giver] for taker in vessels] for giver in vessels]


def _ring_in(given):
    """Return a ring of vessels of which each one gives to the next one, or None if no vessel gives anything."""
    givers = [giver for giver in range(len(given)) if _taker_of(given, giver) is not None]
    if not givers:
        return None
    # Each vessel gives as much as it gets, so the way goes on until it comes to a vessel where it was before.
    way = []
    vessel = givers[0]
    while vessel not in way:
        way.append(vessel)
        vessel = _taker_of(given, vessel)
    return _from_least(way[way.index(vessel):])


def _taker_of(given, giver):
    """Return the first vessel to which a giver gives, or None."""
    for taker, amount in enumerate(given[giver]):
        if amount != Ratio(0):
            return taker
    return None


def _from_least(vessels):
    """Return the ring of vessels in this order, the least one first."""
    at = vessels.index(min(vessels))
    return tuple(vessels[at:] + vessels[:at])


def _steps_of(ring):
    """Return the list of the tuples (giver, taker) of a ring."""
    return list(zip(ring, ring[1:] + ring[:1]))


def _least(ratios):
    """Return the least one of some ratios."""
    least = ratios[0]
    for ratio in ratios:
        if ratio.is_less(least):
            least = ratio
    return least


def _without(given, ring, amount):
    """Return what is given beside an amount in a ring."""
    rest = copy_of(given)
    for giver, taker in _steps_of(ring):
        rest[giver][taker] = rest[giver][taker] - amount
    return rest


def _is_item(value, many):
    """Return whether any value is a tuple of a ring of so many vessels and an amount."""
    if type(value) is not tuple or len(value) != 2:
        return False
    ring, amount = value
    return _is_ring(ring, many) and is_ratio(amount) and amount.top > 0


def _is_ring(value, many):
    """Return whether any value is a ring of so many vessels."""
    if type(value) is not tuple or len(value) < LEAST_IN_RING:
        return False
    return are_different_vessels(value, many) and value[0] == min(value)
