"""Vessels: their volumes, the transfers between them, and what they hold behind these."""

from stirred.checks import is_list_within, is_whole_within
from stirred.errors import (InvalidGroupError, InvalidTransfersError, InvalidVesselError, InvalidVolumesError,
                            TooMuchError)
from stirred.ratios import Ratio
from stirred.rows import copy_of, moved, moved_by_all

MOST_VESSELS = 8
MOST_TRANSFERS = 24
MOST_DROPS = 1000000


def is_volumes(value):
    """Return whether any value is volumes."""
    if not is_list_within(value, 1, MOST_VESSELS):
        return False
    return all([is_whole_within(volume, 1, MOST_DROPS) for volume in value])


def is_transfer(value):
    """Return whether any value is a transfer."""
    if type(value) is not tuple or len(value) != 3:
        return False
    giver, taker, amount = value
    if not all([is_whole_within(vessel, 0, MOST_VESSELS - 1) for vessel in [giver, taker]]):
        return False
    return giver != taker and is_whole_within(amount, 1, MOST_DROPS)


def is_transfer_between(value, many):
    """Return whether any value is a transfer between two of so many vessels."""
    return is_transfer(value) and value[0] < many and value[1] < many


def is_transfers(value):
    """Return whether any value is transfers."""
    return is_list_within(value, 0, MOST_TRANSFERS) and all([is_transfer(transfer) for transfer in value])


def is_possible(volumes, transfers):
    """Return whether each transfer takes fewer drops than its giver holds then."""
    try:
        volumes_by_step(volumes, transfers)
    except TooMuchError:
        return False
    return True


def volumes_after(volumes, transfers):
    """Return the volumes behind the transfers."""
    return volumes_by_step(volumes, transfers)[-1]


def contents_after(volumes, transfers):
    """Return the contents behind the transfers."""
    moves = moves_of(volumes, transfers)
    return moved_by_all(_contents_at_first(volumes), moves)


def shares_after(volumes, transfers):
    """Return the shares behind the transfers."""
    contents = contents_after(volumes, transfers)
    now = volumes_after(volumes, transfers)
    return [[amount * Ratio(1, volume) for amount in row] for row, volume in zip(contents, now)]


def walk_contents(volumes, transfers):
    """Yield the contents at first and behind each transfer."""
    # All is worked out ahead of the first result: later the caller may have changed what it passed.
    moves = moves_of(volumes, transfers)
    contents = _contents_at_first(volumes)
    yield copy_of(contents)
    for giver, taker, part in moves:
        contents = moved(contents, giver, taker, part)
        yield copy_of(contents)


def volumes_by_step(volumes, transfers):
    """Return the list of the volumes ahead of each transfer and behind the last one, if they are possible."""
    check_volumes(volumes)
    _check_transfers_between(transfers, len(volumes))
    steps = [list(volumes)]
    for index, transfer in enumerate(transfers):
        steps.append(volumes_behind(steps[-1], transfer, index))
    return steps


def volumes_behind(volumes, transfer, index):
    """Return the volumes behind one transfer, which has this index among all that are done."""
    giver, taker, amount = transfer
    if amount >= volumes[giver]:
        raise TooMuchError(index)
    after = list(volumes)
    after[giver] = volumes[giver] - amount
    after[taker] = volumes[taker] + amount
    return after


def moves_of(volumes, transfers):
    """Return the list of the moves of possible transfers: giver, taker, and the part that the giver gives."""
    steps = volumes_by_step(volumes, transfers)
    return [(giver, taker, Ratio(amount, now[giver])) for now, (giver, taker, amount) in zip(steps, transfers)]


def are_different_vessels(values, many):
    """Return whether the items of a list or a tuple are vessels out of so many, none of them twice."""
    if not all([is_whole_within(value, 0, many - 1) for value in values]):
        return False
    return len(set(values)) == len(values)


def check_volumes(volumes):
    """Raise an error unless a value is volumes."""
    if not is_volumes(volumes):
        raise InvalidVolumesError("volumes are a list of 1 to 8 integers from 1 to a million")


def check_transfers(transfers):
    """Raise an error unless a value is transfers, between any vessels."""
    if not is_transfers(transfers):
        raise InvalidTransfersError("transfers are a list of 0 to 24 tuples of giver, taker and amount")


def check_vessel(vessel, many):
    """Raise an error unless a value is one of so many vessels."""
    if not is_whole_within(vessel, 0, many - 1):
        raise InvalidVesselError("the vessel is not there")


def check_group(group, many):
    """Raise an error unless a value is a list of different vessels out of so many."""
    if type(group) is not list or not are_different_vessels(group, many):
        raise InvalidGroupError("a group is a list of different vessels")


def _contents_at_first(volumes):
    """Return the contents of vessels that hold a substance of their own each."""
    vessels = range(len(volumes))
    return [[Ratio(volumes[vessel] if substance == vessel else 0) for substance in vessels] for vessel in vessels]


def _check_transfers_between(transfers, many):
    """Raise an error unless a value is transfers between so many vessels."""
    check_transfers(transfers)
    if not all([is_transfer_between(transfer, many) for transfer in transfers]):
        raise InvalidTransfersError("a transfer names a vessel that is not there")
