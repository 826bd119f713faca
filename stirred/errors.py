"""All errors of the package, so that every module can raise any of them."""


class StirError(ValueError):
    """Any error that this package raises."""


class InvalidRatioError(StirError):
    """A value is not a ratio, or not one that is allowed here."""


class ZeroRatioError(StirError):
    """A quotient by 0."""


class InvalidMixtureError(StirError):
    """A value is not the amounts of a mixture."""


class InvalidSubstanceError(StirError):
    """A value is not a substance."""


class InvalidVolumesError(StirError):
    """A value is not volumes."""


class InvalidTransfersError(StirError):
    """A value is not a transfer, or not transfers between these vessels."""


class InvalidVesselError(StirError):
    """A value is not a vessel."""


class InvalidRowsError(StirError):
    """A value is not rows, or not rows that are allowed here."""


class InvalidContentsError(StirError):
    """A value is not any contents for the volumes."""


class InvalidGroupError(StirError):
    """A value is not a list of different vessels."""


class InvalidNumberError(StirError):
    """A number is outside the range that is allowed for it."""


class InvalidFormatError(StirError):
    """A string does not have the form that is read here."""


class NotClosedError(StirError):
    """Some volumes behind the transfers are not as at first."""


class TooSmallError(StirError):
    """A volume is too small for what is planned."""


class OverfullError(StirError):
    """The taker would hold more than the cap."""


class SealedError(StirError):
    """The giver or the taker is sealed."""


class FullError(StirError):
    """A lab has done as many transfers as it can keep."""


class StartedError(StirError):
    """A trial has begun already."""


class NotStartedError(StirError):
    """A trial has not begun."""


class EmptyHistoryError(StirError):
    """No transfer is left to revert."""


class TooMuchError(StirError):
    """The transfer with this index takes too much from its giver."""

    def __init__(self, index):
        self.index = index


class TooManyError(StirError):
    """There are more transfers than this limit."""

    def __init__(self, limit):
        self.limit = limit
