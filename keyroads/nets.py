"""Nets, standings, ways and rings as data."""

from keyroads.checks import check_house, check_neighbour, check_net, check_standing
from keyroads.circles import parts_of, rings_in
from keyroads.errors import InvalidRing, InvalidWay, TooMany
from keyroads.kinds import fits_net, fits_ring, fits_standing, fits_way
from keyroads.lengths import by_house, first_way, lengths_from, ring_keys, way_keys
from keyroads.roads import all_directions, keys_ahead, near_of

MOST_STANDINGS = 2000
MOST_RINGS = 500


def is_net(value):
    """Whether a value is a net."""
    return fits_net(value)


def is_standing(net, value):
    """Whether a value is a standing of a net."""
    check_net(net)
    return fits_standing(net, value)


def neighbours(net, house):
    """The ascending list of a house's neighbours."""
    check_net(net)
    check_house(net, house)
    return near_of(net).get(house, [])


def directions(net):
    """The list of all directions, in order."""
    check_net(net)
    return all_directions(net)


def joined_parts(net):
    """The list, in order, of the ascending lists of houses that ways lead to one another."""
    check_net(net)
    return parts_of(net)


def keys_at(net, standing, one, other):
    """How many keys of the road of two neighbours lie at the end of the other one."""
    check_standing(net, standing)
    check_house(net, one)
    check_neighbour(net, one, other)
    return keys_ahead(net, standing)[(one, other)]


def how_many_standings(net):
    """How many standings a net has."""
    check_net(net)
    many = 1
    for road in net[1]:
        many *= road[2] + 1
    return many


def all_standings(net):
    """The list of all standings, in order; TooMany with how many if they are more than 2,000."""
    many = how_many_standings(net)
    if many > MOST_STANDINGS:
        raise TooMany(many)
    found = [[]]
    for road in net[1]:
        found = [standing + [at_high] for standing in found for at_high in range(road[2] + 1)]
    return found


def is_way(net, value):
    """Whether a value is a way."""
    check_net(net)
    return fits_way(net, value)


def is_ring(net, value):
    """Whether a value is a ring."""
    check_net(net)
    return fits_ring(net, value)


def way_length(net, standing, way):
    """How many keys lie ahead on a way."""
    check_standing(net, standing)
    if not fits_way(net, way):
        raise InvalidWay(way)
    return way_keys(keys_ahead(net, standing), way)


def ring_length(net, standing, ring):
    """How many keys lie ahead on a ring."""
    check_standing(net, standing)
    if not fits_ring(net, ring):
        raise InvalidRing(ring)
    return ring_keys(keys_ahead(net, standing), ring)


def rings(net):
    """The list of all rings, in order; TooMany with 501 if they are more than 500."""
    check_net(net)
    found = rings_in(near_of(net), MOST_RINGS + 1)
    if len(found) > MOST_RINGS:
        raise TooMany(MOST_RINGS + 1)
    return found


def least_lengths(net, standing, house):
    """The least length of ways from a house to each house, None where there is no way."""
    check_standing(net, standing)
    check_house(net, house)
    return by_house(net, lengths_from(keys_ahead(net, standing), [house]))


def shortest_way(net, standing, one, other):
    """The first way of the least length from one house to another, None if there is no way."""
    check_standing(net, standing)
    check_house(net, one)
    check_house(net, other)
    return first_way(keys_ahead(net, standing), one, other)
