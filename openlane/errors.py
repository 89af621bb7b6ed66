"""The errors of the package, one class for each kind of failure."""


class LaneError(ValueError):
    """The base class of all errors of the package."""


class InvalidLane(LaneError):
    """A value is not a lane."""


class InvalidLog(LaneError):
    """A value is not a log for the lane that it begins with."""


class InvalidCar(LaneError):
    """A value is not a car."""


class InvalidCars(LaneError):
    """A value is not a tuple of distinct cars."""


class InvalidSides(LaneError):
    """A value is not a list of sides, or not one side per event."""


class InvalidPattern(LaneError):
    """A value is not a pattern for the places of the final lane."""


class InvalidSightings(LaneError):
    """A value is not a list of sightings in ascending order."""


class InvalidIndex(LaneError):
    """A value is not an index of a possible final lane."""


class InvalidText(LaneError):
    """A value is not a text of the expected kind."""


class UnknownCar(LaneError):
    """A car is not in the first lane and does not arrive."""


class UsedCar(LaneError):
    """A car was in the first lane or has arrived before."""


class EmptyLane(LaneError):
    """A car departs although no car is present."""


class NotPossible(LaneError):
    """A lane is not a possible final lane."""


class NothingToUndo(LaneError):
    """There is no action that could be undone."""


class TooLarge(LaneError):
    """An argument is larger than the limit up to which there is an answer."""

    def __init__(self, limit):
        self.limit = limit
