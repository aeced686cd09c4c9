"""The errors of the package."""


class LatchError(ValueError):
    """The base class of all errors of this package."""


class InvalidKind(LatchError):
    """A value is no kind."""


class InvalidSort(LatchError):
    """A value is no sort of the kind."""


class InvalidSetting(LatchError):
    """A value is no setting of the kind."""


class InvalidTrain(LatchError):
    """A value is no train of the kind."""


class InvalidRoad(LatchError):
    """A value is no road of the kind."""


class InvalidNumber(LatchError):
    """A value is no integer, or not one in the range that is asked for."""


class TooMany(LatchError):
    """There are more of what is counted than a limit allows."""

    def __init__(self, limit):
        self.limit = limit


class InvalidOrder(LatchError):
    """A value is no order of the number that is asked for."""


class UnlikeSettings(LatchError):
    """Two kinds have unlike numbers of settings."""


class InvalidText(LatchError):
    """A value is no text of what is read; the index of the first wrong sign."""

    def __init__(self, at):
        self.at = at


class InvalidStretch(LatchError):
    """Two values are no stretch of the train."""


class NotTurning(LatchError):
    """A train, or a kind, has sorts that do not turn."""


class NotOneToOne(LatchError):
    """A train has sorts that leave two settings in one."""


class InvalidTurns(LatchError):
    """A value is no turns for the kind and the train."""


class InvalidSide(LatchError):
    """A value is no side, or no count."""


class InvalidSides(LatchError):
    """A value is no two sides of a passing."""


class InvalidEndless(LatchError):
    """A value is no endless road of the kind."""


class InvalidLot(LatchError):
    """A value is no lot of trains of the kind."""


class InvalidTold(LatchError):
    """A value is no told roads of the kind."""


class InvalidSorts(LatchError):
    """A value is no ascending tuple of sorts of the kind."""


class InvalidLog(LatchError):
    """A value is no log."""


class InvalidIndex(LatchError):
    """A value is no index of a latch that stands."""


class NoLatch(LatchError):
    """There is no latch to take away."""


class NothingToUndo(LatchError):
    """There is no deed to take back."""


class NothingToRedo(LatchError):
    """There is no deed to do again."""
