"""Standings taken together: those that come of one, classes, the farthest and the nearest ones."""

from keyroads.checks import check_standing
from keyroads.circles import has_stuck_ring
from keyroads.errors import InvalidHouses, TooMany
from keyroads.kinds import fits_pair
from keyroads.lengths import ring_keys
from keyroads.nets import all_standings
from keyroads.reach import closed_rings
from keyroads.roads import able_among, hand_over, keys_ahead, near_of, standing_of

MOST_LATER = 2000


def works_to_later(net, standing):
    """How few works lead to each standing, told as a tuple, that comes of one; TooMany if these are too many."""
    near = near_of(net)
    works = {tuple(standing): 0}
    reached = [standing]
    at = 0
    while at < len(reached):
        here = reached[at]
        for later in next_standings(net, near, here):
            if tuple(later) not in works:
                works[tuple(later)] = works[tuple(here)] + 1
                reached.append(later)
        if len(reached) > MOST_LATER:
            raise TooMany(MOST_LATER + 1)
        at += 1
    return works


def next_standings(net, near, standing):
    """The standings behind one work; those of houses without roads change nothing and are left out."""
    ahead = keys_ahead(net, standing)
    found = []
    for house in able_among(near, ahead, sorted(near)):
        later = {pair: keys for pair, keys in ahead.items()}
        hand_over(near, later, house)
        found.append(standing_of(net, later))
    return found


def later_standings(net, standing):
    """The list, in order, of all standings that come of one; TooMany with 2,001 if they are more than 2,000."""
    check_standing(net, standing)
    return [list(later) for later in sorted(works_to_later(net, standing))]


def classes(net):
    """The list, in order, of the classes of all standings without stuck rings."""
    standings = all_standings(net)
    rings = closed_rings(net)
    found = {}
    for standing in standings:
        ahead = keys_ahead(net, standing)
        if not has_stuck_ring(ahead):
            marks = tuple([ring_keys(ahead, ring) for ring in rings])
            found.setdefault(marks, []).append(standing)
    return list(found.values())


def how_many_classes(net):
    """How many classes there are."""
    return len(classes(net))


def farthest(net, standing):
    """The greatest number of fewest works to a standing that comes of one, and the first such standing."""
    check_standing(net, standing)
    works = works_to_later(net, standing)
    most = max(works.values())
    return (most, list(min([later for later, many in works.items() if many == most])))


def are_wanted(net, value):
    """Whether a value is a list of directions, each once, in any order."""
    if not isinstance(value, list) or not all([fits_pair(net, item) for item in value]):
        return False
    near = near_of(net)
    return len(set(value)) == len(value) and all([other in near.get(one, []) for one, other in value])


def nearest(net, standing, wanted):
    """The fewest works to a standing with a key ahead on all wanted directions, and the first such standing."""
    check_standing(net, standing)
    if not are_wanted(net, wanted):
        raise InvalidHouses(wanted)
    found = []
    for later, many in works_to_later(net, standing).items():
        ahead = keys_ahead(net, later)
        if all([ahead[pair] > 0 for pair in wanted]):
            found.append((many, list(later)))
    if not found:
        return None
    return min(found)
