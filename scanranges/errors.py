"""The errors of the package, one class for each kind of failure."""


class ScanError(ValueError):
    """Any error that this package raises."""


class InvalidSizes(ScanError):
    """The sizes of the columns are not valid."""


class InvalidSet(ScanError):
    """The size or the stretches of a set are not valid, or an object is no ValueSet."""


class InvalidBox(ScanError):
    """The sets of a box are not valid, or an object is no Box."""


class InvalidOrder(ScanError):
    """An order, or a list of orders, is not valid."""


class InvalidCondition(ScanError):
    """The condition of a filter is not valid, or an object is no Diagram."""


class InvalidKey(ScanError):
    """A key has another length than the columns, or a value that its column has not."""


class InvalidTable(ScanError):
    """The keys of a table are not valid."""


class InvalidWish(ScanError):
    """A wish is not valid."""


class InvalidBoxes(ScanError):
    """A list of boxes, or of diagrams, is not valid."""


class InvalidNumber(ScanError):
    """A number is not valid, or an index has nothing."""


class OtherSizes(ScanError):
    """Two objects do not belong to the same columns."""


class EmptyBox(ScanError):
    """A box has no keys."""


class AlreadyThere(ScanError):
    """A row to put is in the store."""


class NotThere(ScanError):
    """A row to take is not in the store."""


class TooMany(ScanError):
    """A result is greater than its limit."""


class NothingToUndo(ScanError):
    """No call is left that could be undone."""


class InvalidText(ScanError):
    """A text cannot be read: place is the number of the stretch or word that cannot stand there."""

    def __init__(self, place):
        ScanError.__init__(self, f"the text cannot be read from stretch or word {place} on")
        self.place = place
