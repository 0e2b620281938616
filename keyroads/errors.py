"""The errors of the package: all of them stand directly under RoadError."""


class RoadError(ValueError):
    """What all errors of the package have in common."""


class InvalidNumber(RoadError):
    """A number is not one of those that are asked for."""

    def __init__(self, value=None):
        self.value = value


class InvalidNet(RoadError):
    """A value is no net, or not one of the nets that are asked for."""

    def __init__(self, value=None):
        self.value = value


class InvalidStanding(RoadError):
    """A value is no standing of the net, or not one that is asked for."""

    def __init__(self, value=None):
        self.value = value


class InvalidHouse(RoadError):
    """A value is no house of the net, or not one that is asked for."""

    def __init__(self, value=None):
        self.value = value


class InvalidHouses(RoadError):
    """A value is not the list of houses that is asked for."""

    def __init__(self, value=None):
        self.value = value


class InvalidWorks(RoadError):
    """A value is not the list of works that is asked for."""

    def __init__(self, value=None):
        self.value = value


class InvalidRun(RoadError):
    """A value is no run, or not one that is asked for."""

    def __init__(self, value=None):
        self.value = value


class InvalidWay(RoadError):
    """A value is no way, or not the list of directions that is asked for."""

    def __init__(self, value=None):
        self.value = value


class InvalidRing(RoadError):
    """A value is no ring of the net."""

    def __init__(self, value=None):
        self.value = value


class InvalidTimes(RoadError):
    """A value is no list of times for the houses."""

    def __init__(self, value=None):
        self.value = value


class InvalidEvent(RoadError):
    """A value is no list of events that are possible in their turns."""

    def __init__(self, value=None):
        self.value = value


class InvalidScript(RoadError):
    """A value is no script, or not the list that is asked for."""

    def __init__(self, value=None):
        self.value = value


class InvalidMarks(RoadError):
    """A number of marks is none."""

    def __init__(self, value=None):
        self.value = value


class InvalidLine(RoadError):
    """A text is not the line or the log that is asked for."""

    def __init__(self, value=None):
        self.value = value


class InvalidDeed(RoadError):
    """A deed cannot be done now, or a value is no network."""

    def __init__(self, value=None):
        self.value = value


class Unlike(RoadError):
    """Two values that have to agree do not."""

    def __init__(self, value=None):
        self.value = value


class TooMany(RoadError):
    """There is more of something than its bound allows."""

    def __init__(self, value=None):
        self.value = value


class NothingToUndo(RoadError):
    """No deed is left that could be taken back."""


class NothingToRedo(RoadError):
    """No deed that was taken back is left to be done again."""
