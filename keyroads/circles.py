"""The search for rings, for arguments that are known to be right.

`heads` tells for each house the ascending list of the houses that one may go
on to from it; houses that lead nowhere need not stand in it.
"""

from keyroads.lengths import ring_keys
from keyroads.roads import heads_of, near_of


def waiting_pairs(ahead):
    """The ascending list of the directions on which no key lies ahead."""
    return sorted([pair for pair, keys in ahead.items() if keys == 0])


def waiting_heads(ahead):
    """The heads of the directions on which no key lies ahead: who waits for whom."""
    return heads_of(waiting_pairs(ahead))


def rings_in(heads, most):
    """The first rings, in order, but not more than `most`.

    No way is kept that cannot be gone on to a ring, so that the time goes with
    the number of rings found, and not with that of all ways.
    """
    found = []
    ways = first_ways(heads)
    while ways and len(found) < most:
        way = ways.pop()
        if closes(heads, way):
            found.append(way)
        ways.extend(longer_ways(heads, way))
    return found


def first_unlike_ring(heads, changes):
    """The first ring, in order, over which these changes of keys do not add up to 0, None if there is none."""
    ways = first_ways(heads)
    while ways:
        way = ways.pop()
        if closes(heads, way) and ring_keys(changes, way) != 0:
            return way
        ways.extend(longer_ways(heads, way))
    return None


def first_ring_through(heads, house):
    """The first ring, in order, that has a house in it, None if there is none."""
    if house not in reached_from(heads, heads.get(house, [])):
        return None
    ways = [way for way in first_ways(heads) if way[0] <= house]
    while ways:
        way = ways.pop()
        if house in way and closes(heads, way):
            return way
        ways.extend(longer_ways(heads, way))
    return None


def first_ways(heads):
    """The ways of one house each, the last one in order first: the search takes ways from the end."""
    return [[start] for start in sorted(heads, reverse=True)]


def closes(heads, way):
    """Whether one more step from the last house of a way to its first one makes it a ring."""
    return len(way) > 2 and way[0] in heads[way[-1]]


def longer_ways(heads, way):
    """The ways of one step more that can be gone on to rings, the last one in order first."""
    return [way + [head] for head in reversed(heads[way[-1]]) if leads_back(heads, way, head)]


def leads_back(heads, way, head):
    """Whether a way can be gone on over this house to a ring with no house below its first one."""
    start = way[0]
    if head <= start or head in way:
        return False
    reached = [head]
    at = 0
    while at < len(reached):
        house = reached[at]
        nexts = heads.get(house, [])
        # There and straight back over one road is no ring.
        if start in nexts and (at > 0 or len(way) > 1):
            return True
        fresh = [other for other in nexts if other > start and other not in way and other not in reached]
        reached.extend(fresh)
        at += 1
    return False


def reached_from(heads, starts):
    """The list of all houses that one comes to from these, themselves among them."""
    reached = list(starts)
    at = 0
    while at < len(reached):
        fresh = [head for head in heads.get(reached[at], []) if head not in reached]
        reached.extend(fresh)
        at += 1
    return reached


def parts_of(net):
    """The list, in order, of the ascending lists of houses that ways lead to one another."""
    near = near_of(net)
    parts = []
    seen = {}
    for house in range(net[0]):
        if house not in seen:
            part = sorted(reached_from(near, [house]))
            parts.append(part)
            for other in part:
                seen[other] = True
    return parts


def houses_on_rings(ahead):
    """The ascending list of all houses of stuck rings.

    No road lets both of its houses wait, so whoever waits for itself over
    others is on a ring of at least three houses.
    """
    heads = waiting_heads(ahead)
    return [house for house in sorted(heads) if house in reached_from(heads, heads[house])]


def has_stuck_ring(ahead):
    """Whether there is a stuck ring."""
    return len(rings_in(waiting_heads(ahead), 1)) > 0
