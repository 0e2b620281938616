"""Standings that come of one another: by which works, and the papers that one does not."""

from keyroads.checks import check_net, check_standing, check_two_standings
from keyroads.circles import first_unlike_ring, houses_on_rings, parts_of, reached_from
from keyroads.kinds import fits_house_list, fits_ring, fits_way
from keyroads.lengths import first_way, ring_keys, way_keys
from keyroads.lists import run_for
from keyroads.roads import go_through, keys_ahead, near_of, standing_of


def keys_more(net, standing, other):
    """For each direction, how many more keys lie ahead in the other standing."""
    ahead = keys_ahead(net, standing)
    later = keys_ahead(net, other)
    return {pair: later[pair] - keys for pair, keys in ahead.items()}


def works_from(near, changes, start):
    """How often the houses of a part have to work if the first of them, `start`, does not.

    A number may be below 0. Each is told by one way alone: where the ways to a
    house do not tell the same, no numbers fit.
    """
    works = {start: 0}
    reached = [start]
    at = 0
    while at < len(reached):
        house = reached[at]
        for other in near.get(house, []):
            if other not in works:
                works[other] = works[house] - changes[(house, other)]
                reached.append(other)
        at += 1
    return works


def fits_changes(works, changes):
    """Whether works make just these changes of keys, among the houses that they are told for."""
    return all([works[one] - works[other] == more for (one, other), more in changes.items() if one in works])


def works_in_part(near, changes, part, stuck):
    """The fewest works that make these changes in a joined part, None if no works there can."""
    held = [house for house in part if house in stuck]
    works = works_from(near, changes, held[0] if held else part[0])
    if not fits_changes(works, changes):
        return None
    if not held:
        least = min(works.values())
        return {house: many - least for house, many in works.items()}
    if min(works.values()) < 0 or any([works[house] > 0 for house in held]):
        return None
    return works


def works_between(net, standing, other):
    """The fewest works that lead from one standing to another, None if it does not come of it."""
    check_two_standings(net, standing, other)
    near = near_of(net)
    changes = keys_more(net, standing, other)
    stuck = houses_on_rings(keys_ahead(net, standing))
    works = {}
    for part in parts_of(net):
        found = works_in_part(near, changes, part, stuck)
        if found is None:
            return None
        works.update(found)
    return [works[house] for house in range(net[0])]


def run_between(net, standing, other):
    """A run of the fewest works that lead from one standing to another, None if there is none."""
    works = works_between(net, standing, other)
    if works is None:
        return None
    return run_for(net, standing, works)


def is_run_between(net, standing, other, value):
    """Whether a value is a run that leads from one standing to another."""
    check_two_standings(net, standing, other)
    ahead = keys_ahead(net, standing)
    if not fits_house_list(net, value) or not go_through(near_of(net), ahead, value, []):
        return False
    return standing_of(net, ahead) == other


def round_trip(net, standing, other):
    """How often each house works there and back, None if one of both does not come of the other."""
    there = works_between(net, standing, other)
    back = works_between(net, other, standing)
    if there is None or back is None:
        return None
    return [one + two for one, two in zip(there, back)]


def barring(net, standing, other):
    """Why a standing does not come of another one: the first such ring or way, None if it comes."""
    check_two_standings(net, standing, other)
    near = near_of(net)
    changes = keys_more(net, standing, other)
    ring = None
    if not all([fits_changes(works_from(near, changes, part[0]), changes) for part in parts_of(net)]):
        ring = first_unlike_ring(near, changes)
    if ring is not None:
        return ("ring", ring)
    way = first_barring_way(near, changes, houses_on_rings(keys_ahead(net, standing)))
    if way is None:
        return None
    return ("way", way)


def first_barring_way(near, changes, stuck):
    """The first way that bars where no ring does, None if none does."""
    for start in stuck:
        # All rings are alike, so it is no matter over which houses a way goes.
        works = works_from(near, changes, start)
        goals = [house for house, many in works.items() if many < 0 or (many > 0 and house in stuck)]
        if goals:
            return first_way_to_any(near, start, goals)
    return None


def first_way_to_any(near, start, goals):
    """The first way, without a house twice, from a house to any of these, which it is none of."""
    way = [start]
    while way[-1] not in goals:
        way.append(min([head for head in near[way[-1]] if head not in way and leads_to_any(near, way, head, goals)]))
    return way


def leads_to_any(near, way, head, goals):
    """Whether ways lead from a house to any of these without the houses of a way."""
    free = {house: [other for other in others if other not in way] for house, others in near.items()}
    reached = reached_from(free, [head])
    return any([goal in reached for goal in goals])


def is_barring(net, standing, other, value):
    """Whether a value is a ring or a way that bars one standing from coming of another."""
    check_two_standings(net, standing, other)
    if not isinstance(value, tuple) or len(value) != 2:
        return False
    changes = keys_more(net, standing, other)
    if value[0] == "ring":
        return fits_ring(net, value[1]) and ring_keys(changes, value[1]) != 0
    if value[0] != "way" or not fits_way(net, value[1]):
        return False
    way = value[1]
    stuck = houses_on_rings(keys_ahead(net, standing))
    if way[0] not in stuck:
        return False
    more = way_keys(changes, way)
    return more > 0 or (more < 0 and way[-1] in stuck)


def closed_rings(net):
    """For each road that closes a ring, in order, the one of it and of roads that close none."""
    check_net(net)
    found = []
    steps = {}
    for low, high, _ in net[1]:
        way = first_way(steps, high, low)
        if way is None:
            steps[(low, high)] = 1
            steps[(high, low)] = 1
        else:
            found.append(from_least(way))
    return found


def from_least(ring):
    """A ring told from its least house on."""
    at = ring.index(min(ring))
    return ring[at:] + ring[:at]


def ring_marks(net, standing):
    """The lengths of the closed rings."""
    check_standing(net, standing)
    ahead = keys_ahead(net, standing)
    return [ring_keys(ahead, ring) for ring in closed_rings(net)]
