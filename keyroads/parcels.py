"""Ways to a goal: where parcels go, what the loss of a road does, and the bound that tells who is cut off."""

from keyroads.checks import check_house, check_joined, check_joined_free, check_neighbour
from keyroads.cuts import greatest_sum
from keyroads.goals import at_goal
from keyroads.lengths import by_house, lengths_from
from keyroads.reach import closed_rings
from keyroads.roads import keys_ahead, near_of
from keyroads.stuck import numbering


def check_parcel(net, standing, house):
    """The errors of a joined net, a standing without stuck rings and a house."""
    check_joined_free(net, standing)
    check_house(net, house)


def check_loss(net, one, other):
    """InvalidHouse unless they are two neighbours."""
    check_house(net, one)
    check_neighbour(net, one, other)


def heads_on(net, standing):
    """For all houses in order, the ascending list of the neighbours at whose ends lie all keys of the road."""
    ahead = keys_ahead(net, standing)
    near = near_of(net)
    return [[other for other in near.get(house, []) if ahead[(other, house)] == 0] for house in range(net[0])]


def heads_first(net, standing):
    """All houses in a row in which each one comes behind those that it leads on to."""
    row = [0] * net[0]
    # Who waits has the greater number, and it waits for those that it leads on to.
    for house, number in enumerate(numbering(net, standing)):
        row[number] = house
    return row


def leads_on(net, standing):
    """For all houses in order, the ascending list of the neighbours that each leads on to."""
    check_joined_free(net, standing)
    return heads_on(net, standing)


def parcel_way(net, standing, house):
    """The way of a parcel that goes on from a house to the least neighbour that each leads on to."""
    check_parcel(net, standing, house)
    heads = heads_on(net, standing)
    way = [house]
    while heads[way[-1]]:
        way.append(heads[way[-1]][0])
    return way


def how_many_ways(net, standing, house):
    """How many ways there are to go on from a house until the end."""
    check_parcel(net, standing, house)
    heads = heads_on(net, standing)
    ways = {}
    for tail in heads_first(net, standing):
        ways[tail] = sum([ways[head] for head in heads[tail]]) if heads[tail] else 1
    return ways[house]


def longest_way(net, standing, house):
    """The most steps of a way to go on from a house until the end."""
    check_parcel(net, standing, house)
    heads = heads_on(net, standing)
    steps = {}
    for tail in heads_first(net, standing):
        steps[tail] = max([steps[head] + 1 for head in heads[tail]], default=0)
    return steps[house]


def without_road(net, standing, one, other):
    """The net and the standing without a road."""
    pair = (min(one, other), max(one, other))
    kept = [at for at in range(len(net[1])) if net[1][at][:2] != pair]
    return ((net[0], [net[1][at] for at in kept]), [standing[at] for at in kept])


def lost_road(net, standing, one, other):
    """The net and the standing without the road of two neighbours."""
    check_joined_free(net, standing)
    check_loss(net, one, other)
    return without_road(net, standing, one, other)


def works_behind_loss(net, standing, goal, one, other):
    """How often each house works from the standing of a goal on, behind the loss of a road; None if without end."""
    left, held = without_road(net, at_goal(net, standing, goal), one, other)
    return by_house(left, lengths_from(keys_ahead(left, held), [goal]))


def repair(net, standing, goal, one, other):
    """How often each house works until all that can stands still again, None for those that are cut off."""
    check_parcel(net, standing, goal)
    check_loss(net, one, other)
    return works_behind_loss(net, standing, goal, one, other)


def unharmed(net, standing, goal, one, other):
    """The ascending list of the houses that need not work behind the loss of a road."""
    check_parcel(net, standing, goal)
    check_loss(net, one, other)
    works = works_behind_loss(net, standing, goal, one, other)
    return [house for house in range(net[0]) if works[house] == 0]


def lots_together(net):
    """The lists of the roads that lie together on rings, each as dicts of `True` by their directions.

    Rings that close over one tree are enough: roads lie together exactly if they
    do by such rings.
    """
    lots = []
    for ring in closed_rings(net):
        pairs = [(ring[at - 1], ring[at]) for at in range(len(ring))]
        joined = {pair: True for one, other in pairs for pair in ((one, other), (other, one))}
        apart = []
        for lot in lots:
            if any([pair in joined for pair in lot]):
                joined.update(lot)
            else:
                apart.append(lot)
        lots = apart + [joined]
    return lots


def cut_off_bound(net, goal):
    """How often at most a house works behind the loss of any one road if it is not cut off from the goal."""
    check_joined(net)
    check_house(net, goal)
    keys = {road[:2]: road[2] for road in net[1]}
    roads_from = lengths_from({pair: 1 for one, other in keys for pair in ((one, other), (other, one))}, [goal])
    bounds = [0]
    for lot in lots_together(net):
        nearest = min([(roads_from[house], house) for house, _ in lot])[1]
        bounds.append(greatest_sum({pair: keys[(min(pair), max(pair))] for pair in lot}, nearest) - 1)
    return max(bounds)
