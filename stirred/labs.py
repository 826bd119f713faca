"""Labs: vessels that are poured call by call."""

from stirred.checks import is_whole_within
from stirred.errors import (EmptyHistoryError, FullError, InvalidNumberError, InvalidTransfersError, OverfullError,
                            SealedError)
from stirred.factors import factor_of
from stirred.mixtures import Mixture
from stirred.vessels import (check_group, check_vessel, check_volumes, contents_after, is_transfer_between,
                             volumes_after, volumes_behind)

MOST_CAP = 10000000


class Lab:
    """Vessels that are poured call by call; what was done last can be undone."""

    MOST = 24

    def __init__(self, volumes):
        check_volumes(volumes)
        self._first = list(volumes)
        # The transfers that are not reverted. A trial keeps this tuple and puts it back at its end.
        self.history = ()

    @property
    def first_volumes(self):
        """The volumes at first."""
        return list(self._first)

    @property
    def volumes(self):
        """The volumes now."""
        return volumes_after(self._first, list(self.history))

    @property
    def done(self):
        """The list of the transfers that are done and not reverted."""
        return list(self.history)

    @property
    def factor(self):
        """The factor of the transfers that are done and not reverted."""
        return factor_of(self._first, list(self.history))

    def __len__(self):
        return len(self.history)

    def __eq__(self, other):
        return (isinstance(other, Lab) and type(self) is type(other)
                and self._first == other._first and self.history == other.history)

    def pour(self, giver, taker, amount):
        """Do a transfer and return the volume of the taker behind it."""
        self.history = self._continued(self.history, (giver, taker, amount))
        return self.volumes[taker]

    def undo(self):
        """Revert the last transfer that is not reverted."""
        if not self.history:
            raise EmptyHistoryError("no transfer is left to revert")
        self.history = self.history[:-1]

    def tried(self, *transfers):
        """Return the volumes that the vessels would have behind some more transfers."""
        history = self.history
        for transfer in transfers:
            history = self._continued(history, transfer)
        return volumes_after(self._first, list(history))

    def holds(self, vessel):
        """Return the content of a vessel as a mixture."""
        check_vessel(vessel, len(self._first))
        amounts = contents_after(self._first, list(self.history))[vessel]
        return Mixture({substance: amount for substance, amount in enumerate(amounts) if amount.top > 0})

    def twin(self):
        """Return an independent lab that is the same in all."""
        other = self._anew()
        other.history = self.history
        return other

    def described(self):
        """Return the list of what kind of a lab it is."""
        return [f"vessels {len(self._first)}"]

    def _anew(self):
        """Return a lab of the same kind as this one was at first."""
        return Lab(self._first)

    def _continued(self, history, transfer):
        """Return a history with one transfer more, if the lab can do it behind the others."""
        if not is_transfer_between(transfer, len(self._first)):
            raise InvalidTransfersError("it is not a transfer of two vessels of the lab")
        behind = volumes_behind(volumes_after(self._first, list(history)), transfer, len(history))
        self._check_kind(transfer, behind)
        if len(history) >= Lab.MOST:
            raise FullError("no more transfers are kept")
        return history + (transfer,)

    def _check_kind(self, transfer, behind):
        """Raise the errors of the kind of the lab for a transfer with the volumes behind it; plain labs have none."""


class CappedLab(Lab):
    """A lab in which no taker may hold more than a cap."""

    def __init__(self, volumes, cap):
        Lab.__init__(self, volumes)
        if not is_whole_within(cap, max(volumes), MOST_CAP):
            raise InvalidNumberError("the cap is not an integer from the greatest of the volumes to ten millions")
        self._cap = cap

    def described(self):
        """Return the list of what kind of a lab it is."""
        return super().described() + [f"cap {self._cap}"]

    def _anew(self):
        """Return a lab of the same kind as this one was at first."""
        return CappedLab(self._first, self._cap)

    def _check_kind(self, transfer, behind):
        """Raise an error if the taker would hold more than the cap."""
        if behind[transfer[1]] > self._cap:
            raise OverfullError("the taker would hold more than the cap")
        super()._check_kind(transfer, behind)


class SealedLab(Lab):
    """A lab with vessels that neither give nor take."""

    def __init__(self, volumes, sealed):
        Lab.__init__(self, volumes)
        check_group(sealed, len(volumes))
        self._sealed = list(sealed)

    def described(self):
        """Return the list of what kind of a lab it is."""
        return super().described() + [f"sealed {len(self._sealed)}"]

    def _anew(self):
        """Return a lab of the same kind as this one was at first."""
        return SealedLab(self._first, self._sealed)

    def _check_kind(self, transfer, behind):
        """Raise an error if the giver or the taker is sealed."""
        if transfer[0] in self._sealed or transfer[1] in self._sealed:
            raise SealedError("the giver or the taker is sealed")
        super()._check_kind(transfer, behind)


class CappedSealedLab(SealedLab, CappedLab):
    """A lab that is both; sealed vessels come first where it refuses, and last where it is described."""

    def __init__(self, volumes, cap, sealed):
        CappedLab.__init__(self, volumes, cap)
        SealedLab.__init__(self, volumes, sealed)

    def _anew(self):
        """Return a lab of the same kind as this one was at first."""
        return CappedSealedLab(self._first, self._cap, self._sealed)
