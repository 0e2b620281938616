"""Beats: who starts when if all houses start as soon as they can, and other timetables."""

from keyroads.checks import check_beats, check_timed
from keyroads.errors import TooMany
from keyroads.hands import Hands
from keyroads.kinds import fits_resting

MOST_TURNING = 2000


def starts(net, standing, times, many):
    """For each of the first beats, the ascending list of the houses that start, all at once."""
    check_timed(net, standing, times)
    check_beats(many)
    hands = Hands(net, standing, times)
    houses = list(range(net[0]))
    found = []
    for _ in range(many):
        hands.finish()
        starting = hands.may_start(houses)
        hands.begin(starting)
        found.append(starting)
    return found


def turning(net, standing, times):
    """What starts at first, and what starts again and again from then on; TooMany if that takes too long."""
    check_timed(net, standing, times)
    hands = Hands(net, standing, times)
    houses = list(range(net[0]))
    beat_of = {}
    found = []
    for beat in range(MOST_TURNING + 1):
        hands.finish()
        state = hands.state()
        if state in beat_of:
            return folded(found, beat_of[state])
        beat_of[state] = beat
        starting = hands.may_start(houses)
        hands.begin(starting)
        found.append(starting)
    raise TooMany(MOST_TURNING + 1)


def folded(found, at):
    """A list that goes on with its items from this place on again and again, told as shortly as can be."""
    ahead = found[:at]
    cycle = shortest_cycle(found[at:])
    while ahead and ahead[-1] == cycle[-1]:
        ahead.pop()
        cycle = cycle[-1:] + cycle[:-1]
    return (ahead, cycle)


def shortest_cycle(cycle):
    """The shortest list that makes this one if it is repeated."""
    many = len(cycle)
    sizes = [size for size in range(1, many + 1) if many % size == 0 and cycle[:size] * (many // size) == cycle]
    return cycle[:sizes[0]]


def is_timetable(net, standing, times, value):
    """Whether a value is a list of lists of houses, each of which can start when its turn comes."""
    check_timed(net, standing, times)
    if not isinstance(value, list) or not all([fits_resting(net, starting) for starting in value]):
        return False
    hands = Hands(net, standing, times)
    for starting in value:
        hands.finish()
        if hands.may_start(starting) != starting:
            return False
        hands.begin(starting)
    return True
