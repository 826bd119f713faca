"""Vessels: their volumes, the transfers between them, and what they hold behind these."""

from stirred.checks import is_list_within, is_whole_within
from stirred.errors import InvalidTransfersError, InvalidVolumesError, TooMuchError
from stirred.ratios import Ratio
from stirred.rows import copy_of, moved, moved_by_all

MOST_VESSELS = 8
MOST_TRANSFERS = 24
MOST_DROPS = 1000000


def is_volumes(value):
    """Return whether any value is volumes."""
    if not is_list_within(value, 1, MOST_VESSELS):
        return False
    return all([is_whole_within(volume, 1, MOST_DROPS) for volume in value])


def is_transfer(value):
    """Return whether any value is a transfer."""
    if type(value) is not tuple or len(value) != 3:
        return False
    giver, taker, amount = value
    if not all([is_whole_within(vessel, 0, MOST_VESSELS - 1) for vessel in [giver, taker]]):
        return False
    return giver != taker and is_whole_within(amount, 1, MOST_DROPS)


def is_transfers(value):
    """Return whether any value is transfers."""
    return is_list_within(value, 0, MOST_TRANSFERS) and all([is_transfer(transfer) for transfer in value])


def is_possible(volumes, transfers):
    """Return whether each transfer takes fewer drops than its giver holds then."""
    try:
        volumes_by_step(volumes, transfers)
    except TooMuchError:
        return False
    return True


def volumes_after(volumes, transfers):
    """Return the volumes behind the transfers."""
    return volumes_by_step(volumes, transfers)[-1]


def contents_after(volumes, transfers):
    """Return the contents behind the transfers."""
    moves = moves_of(volumes, transfers)
    return moved_by_all(_contents_at_first(volumes), moves)


def shares_after(volumes, transfers):
    """Return the shares behind the transfers."""
    contents = contents_after(volumes, transfers)
    now = volumes_after(volumes, transfers)
    return [[amount * Ratio(1, volume) for amount in row] for row, volume in zip(contents, now)]


def walk_contents(volumes, transfers):
    """Yield the contents at first and behind each transfer."""
    # All is worked out ahead of the first result: later the caller may have changed what it passed.
    moves = moves_of(volumes, transfers)
    contents = _contents_at_first(volumes)
    yield copy_of(contents)
    for giver, taker, part in moves:
        contents = moved(contents, giver, taker, part)
        yield copy_of(contents)


def volumes_by_step(volumes, transfers):
    """Return the list of the volumes ahead of each transfer and behind the last one, if they are possible."""
    _check_volumes(volumes)
    _check_transfers(transfers, len(volumes))
    steps = [list(volumes)]
    for index, (giver, taker, amount) in enumerate(transfers):
        now = list(steps[-1])
        if amount >= now[giver]:
            raise TooMuchError(index)
        now[giver] = now[giver] - amount
        now[taker] = now[taker] + amount
        steps.append(now)
    return steps


def moves_of(volumes, transfers):
    """Return the list of the moves of possible transfers: giver, taker, and the part that the giver gives."""
    steps = volumes_by_step(volumes, transfers)
    return [(giver, taker, Ratio(amount, now[giver])) for now, (giver, taker, amount) in zip(steps, transfers)]


def _contents_at_first(volumes):
    """Return the contents of vessels that hold a substance of their own each."""
    vessels = range(len(volumes))
    return [[Ratio(volumes[vessel] if substance == vessel else 0) for substance in vessels] for vessel in vessels]


def _check_volumes(volumes):
    """Raise an error unless a value is volumes."""
    if not is_volumes(volumes):
        raise InvalidVolumesError("volumes are a list of 1 to 8 integers from 1 to a million")


def _check_transfers(transfers, many):
    """Raise an error unless a value is transfers between so many vessels."""
    if not is_transfers(transfers):
        raise InvalidTransfersError("transfers are a list of 0 to 24 tuples of giver, taker and amount")
    if not all([transfer[0] < many and transfer[1] < many for transfer in transfers]):
        raise InvalidTransfersError("a transfer names a vessel that is not there")
