"""Least lengths of ways, for arguments that are known to be right.

`ahead` tells how many keys lie ahead for each direction that may be gone; it
need not hold all directions of a net.
"""

from heapq import heappop, heappush


def way_keys(ahead, way):
    """How many keys lie ahead on a way."""
    return sum([ahead[(way[at - 1], way[at])] for at in range(1, len(way))])


def ring_keys(ahead, ring):
    """How many keys lie ahead on a ring."""
    return way_keys(ahead, ring + ring[:1])


def lengths_from(ahead, starts):
    """A dict of the least lengths of ways from any of these houses, for all that are reached."""
    steps = {}
    for (tail, head), keys in ahead.items():
        steps.setdefault(tail, []).append((head, keys))
    lengths = {}
    queue = [(0, start) for start in sorted(starts)]
    while queue:
        length, house = heappop(queue)
        if house in lengths:
            continue
        lengths[house] = length
        for head, keys in steps.get(house, []):
            if head not in lengths:
                heappush(queue, (length + keys, head))
    return lengths


def lengths_to(ahead, goal):
    """A dict of the least lengths of ways to a house, for all that lead there."""
    turned = {(head, tail): keys for (tail, head), keys in ahead.items()}
    return lengths_from(turned, [goal])


def by_house(net, lengths):
    """The list of these lengths for all houses, None where there is none."""
    return [lengths.get(house) for house in range(net[0])]


def first_way(ahead, start, goal):
    """The first way of the least length without a house twice, None if there is no way."""
    left = lengths_to(ahead, goal).get(start)
    if left is None:
        return None
    way = [start]
    while way[-1] != goal:
        head = next_house(ahead, way, goal, left)
        left -= ahead[(way[-1], head)]
        way.append(head)
    return way


def next_house(ahead, way, goal, left):
    """The least house to go on to if the rest has to have this length and no house of the way."""
    free = {(tail, head): keys for (tail, head), keys in ahead.items() if tail not in way and head not in way}
    lengths = lengths_to(free, goal)
    last = way[-1]
    return min([head for (tail, head), keys in ahead.items()
                if tail == last and head in lengths and keys + lengths[head] == left])


def first_way_from(ahead, starts, goal):
    """The first way, without a house twice, of the least length from any of these houses."""
    lengths = lengths_to(ahead, goal)
    reached = [start for start in starts if start in lengths]
    if not reached:
        return None
    least = min([lengths[start] for start in reached])
    return first_way(ahead, min([start for start in reached if lengths[start] == least]), goal)
