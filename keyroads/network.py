"""A live network: a net, a standing and resting houses that deeds change, and that lead back again."""

from keyroads.changes import number_without
from keyroads.checks import check_standing
from keyroads.counts import counts, last_standing
from keyroads.errors import InvalidDeed, NothingToRedo, NothingToUndo
from keyroads.histories import changed
from keyroads.kinds import fits_house
from keyroads.lines import line_of
from keyroads.stuck import stuck_houses
from keyroads.works import able

MOST_HOUSES = 12


def stage_behind(stage, deed):
    """The net, the standing and the resting houses behind a deed, None if a value is no deed that can be done."""
    if not isinstance(deed, tuple) or len(deed) < 2:
        return None
    net, standing, resting = stage
    word, house = deed[0], deed[1]
    if word in ("rest", "wake"):
        if len(deed) != 2 or not fits_house(net, house) or (house in resting) != (word == "wake"):
            return None
        return (net, standing, rest_of(resting, word, house))
    if (word == "house" and net[0] >= MOST_HOUSES) or (word == "work" and house in resting):
        return None
    later = changed(net, standing, deed)
    if later is None:
        return None
    return (later[0], later[1], rest_of(resting, word, house))


def rest_of(resting, word, house):
    """Who rests behind a deed that can be done."""
    if word == "rest":
        return sorted(resting + [house])
    left = [other for other in resting if word not in ("wake", "gone") or other != house]
    return [number_without(other, house) if word == "gone" else other for other in left]


def kept_deed(deed):
    """A deed that shares no list with this one."""
    if deed[0] == "house":
        return ("house", list(deed[1]))
    return deed


class Network:
    """A net, a standing and which houses rest, as they are now, and the deeds that led there."""

    def __init__(self, net, standing):
        check_standing(net, standing)
        # What was ahead of each deed, and what is now; none of these is ever changed.
        self.stages = [((net[0], list(net[1])), list(standing), [])]
        self.deeds = []
        # The deeds that were taken back, the last one last.
        self.undone = []

    def __eq__(self, other):
        if not isinstance(other, Network):
            return False
        return self.stages[-1] == other.stages[-1] and self.deeds == other.deeds

    def net(self):
        """The net as it is now."""
        houses, roads = self.stages[-1][0]
        return (houses, list(roads))

    def standing(self):
        """The standing as it is now."""
        return list(self.stages[-1][1])

    def resting(self):
        """The ascending list of the houses that rest."""
        return list(self.stages[-1][2])

    def line(self):
        """The line of the net and the standing."""
        return line_of(self.net(), self.standing())

    def do(self, deed):
        """Do a deed, and forget what was undone."""
        later = stage_behind(self.stages[-1], deed)
        if later is None:
            raise InvalidDeed(deed)
        self.stages.append(later)
        self.deeds.append(kept_deed(deed))
        self.undone = []

    def undo(self):
        """Take the last deed back that is not taken back yet."""
        if not self.deeds:
            raise NothingToUndo()
        self.stages.pop()
        self.undone.append(self.deeds.pop())

    def redo(self):
        """Do again what was taken back last."""
        if not self.undone:
            raise NothingToRedo()
        deed = self.undone.pop()
        self.stages.append(stage_behind(self.stages[-1], deed))
        self.deeds.append(deed)

    def log(self):
        """The list of the deeds that are done and not taken back."""
        return [kept_deed(deed) for deed in self.deeds]

    def copy(self):
        """A network that is equal, in which the same can be undone and redone, and which goes its own way."""
        twin = Network(self.net(), self.standing())
        twin.stages = list(self.stages)
        twin.deeds = list(self.deeds)
        twin.undone = list(self.undone)
        return twin

    def ready(self):
        """The ascending list of the houses that can work and do not rest."""
        resting = self.resting()
        return [house for house in able(self.net(), self.standing()) if house not in resting]

    def stuck(self):
        """The ascending list of the houses of stuck rings."""
        return stuck_houses(self.net(), self.standing())

    def left(self):
        """How often each house works from now on, None if it works without end."""
        return counts(self.net(), self.standing(), self.resting())

    def last(self):
        """The standing in which all stands still at last, None if a house works without end."""
        return last_standing(self.net(), self.standing(), self.resting())


def is_deed(network, value):
    """Whether a value is a deed that can be done now."""
    if not isinstance(network, Network):
        raise InvalidDeed(network)
    return stage_behind(network.stages[-1], value) is not None
