"""Origins: vessels that hold any contents at first, and the way back to these."""

from stirred.errors import InvalidContentsError
from stirred.ratios import Ratio, total
from stirred.rows import is_rows, moved_by_all
from stirred.vessels import moves_of, volumes_after, volumes_by_step


def poured(volumes, transfers, contents):
    """Return the contents behind the transfers for any contents at first."""
    moves = moves_of(volumes, transfers)
    _check_contents(volumes, contents)
    return moved_by_all(contents, moves)


def origin_of(volumes, transfers, contents):
    """Return the contents at first that lead to any contents behind the transfers, or None if there are none."""
    _check_contents(volumes_after(volumes, transfers), contents)
    found = moved_by_all(contents, _moves_back(volumes, transfers))
    if any([_has_less_than_nothing(row) for row in found]):
        return None
    return found


def is_origin(volumes, transfers, contents, value):
    """Return whether any value is the contents at first that lead to any contents behind the transfers."""
    found = origin_of(volumes, transfers, contents)
    # Only contents are compared: any value may fail at that.
    return _is_contents(volumes, value) and value == found


def _moves_back(volumes, transfers):
    """Return the moves that undo possible transfers, the last one first."""
    behind = volumes_by_step(volumes, transfers)[1:]
    # What the giver gave is this part of what it has kept.
    moves = [(giver, taker, Ratio(-amount, now[giver])) for now, (giver, taker, amount) in zip(behind, transfers)]
    return moves[::-1]


def _is_contents(volumes, value):
    """Return whether any value is any contents for the volumes."""
    if not is_rows(value) or len(value) != len(volumes):
        return False
    return all([_fills(row, volume) for row, volume in zip(value, volumes)])


def _fills(row, volume):
    """Return whether a row is amounts from 0 on that add up to a volume."""
    return not _has_less_than_nothing(row) and total(row) == Ratio(volume)


def _has_less_than_nothing(row):
    """Return whether an amount in a row is below 0."""
    return any([amount.is_less(Ratio(0)) for amount in row])


def _check_contents(volumes, contents):
    """Raise an error unless a value is any contents for the volumes."""
    if not _is_contents(volumes, contents):
        raise InvalidContentsError("contents are a row of amounts for each vessel that add up to its volume")
