"""Trials: what is done in a lab for a while and then is as if it had not been."""

from stirred.checks import is_list_within
from stirred.errors import InvalidTransfersError, NotStartedError, StartedError, StirError
from stirred.vessels import MOST_TRANSFERS

PARTS = 3


class Trial:
    """A context object at whose end a lab is as it was at its beginning."""

    def __init__(self, lab):
        self._lab = lab
        # The history of the lab at the beginning, None while the trial is not going on.
        self._kept = None

    def __enter__(self):
        return self.begin()

    def __exit__(self, kind, value, trace):
        self._revert()

    def begin(self):
        """Begin the trial and return the lab."""
        if self._kept is not None:
            raise StartedError("the trial has begun already")
        self._kept = self._lab.history
        return self._lab

    def finish(self):
        """End the trial and return the transfers that were done in the lab until then."""
        if self._kept is None:
            raise NotStartedError("the trial has not begun")
        until_now = self._lab.done
        self._revert()
        return until_now

    def _revert(self):
        """Put the lab back to what it was at the beginning."""
        lab = self._lab
        lab.history = self._kept
        self._kept = None


def volumes_in_trial(lab, transfers):
    """Return the volumes behind a list of transfers that a lab does in a trial."""
    _check_list(transfers)
    with Trial(lab):
        for transfer in transfers:
            _pour(lab, transfer)
        found = lab.volumes
    return found


def passed(lab, transfers):
    """Return how many of the transfers a lab can do one after the other, from the first one on."""
    _check_list(transfers)
    many = 0
    with Trial(lab):
        for transfer in transfers:
            try:
                _pour(lab, transfer)
            except StirError:
                break
            many = many + 1
    return many


def _pour(lab, transfer):
    """Let a lab do a transfer, which may be any value."""
    if type(transfer) is not tuple or len(transfer) != PARTS:
        raise InvalidTransfersError("a transfer is a tuple of giver, taker and amount")
    giver, taker, amount = transfer
    lab.pour(giver, taker, amount)


def _check_list(transfers):
    """Raise an error unless a value is a list of as many items as transfers can be."""
    if not is_list_within(transfers, 0, MOST_TRANSFERS):
        raise InvalidTransfersError("transfers are a list of 0 to 24 items")
