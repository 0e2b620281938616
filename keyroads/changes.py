"""Changes of a net: roads, keys and houses that come and go, and what they do to rings and counts."""

from keyroads.checks import check_house, check_resting, check_road, check_standing
from keyroads.circles import first_ring_through, waiting_heads
from keyroads.ends import counts_past
from keyroads.errors import InvalidHouse, InvalidHouses, InvalidNumber
from keyroads.kinds import fits_house, is_ascending, is_count, is_whole
from keyroads.lengths import by_house, lengths_from
from keyroads.roads import keys_ahead


def net_with(houses, ahead):
    """The net and the standing in which so many keys lie ahead in each direction."""
    pairs = sorted([pair for pair in ahead if pair[0] < pair[1]])
    roads = [(low, high, ahead[(low, high)] + ahead[(high, low)]) for low, high in pairs]
    return ((houses, roads), [ahead[pair] for pair in pairs])


def check_apart(net, u, v):
    """InvalidHouse unless they are two houses that are no neighbours."""
    check_house(net, u)
    check_house(net, v)
    if u == v or (min(u, v), max(u, v)) in [road[:2] for road in net[1]]:
        raise InvalidHouse(v)


def check_new_road(net, u, v, at_u, at_v):
    """The errors of a new road between two houses, with so many keys at either end."""
    check_apart(net, u, v)
    if not is_count(at_u):
        raise InvalidNumber(at_u)
    if not is_count(at_v) or at_u + at_v == 0:
        raise InvalidNumber(at_v)


def check_ends(net, standing, ends):
    """The errors of a net, a standing and the roads of a new house."""
    check_standing(net, standing)
    if not isinstance(ends, list) or not all([fits_end(net, end) for end in ends]):
        raise InvalidHouses(ends)
    if not is_ascending([end[0] for end in ends]):
        raise InvalidHouses(ends)


def fits_end(net, value):
    """Whether a value tells of a road of a new house: the other house, and the keys here and there."""
    if not isinstance(value, tuple) or len(value) != 3 or not fits_house(net, value[0]):
        return False
    return is_count(value[1]) and is_count(value[2]) and value[1] + value[2] > 0


def ahead_with_road(net, standing, u, v, at_u, at_v):
    """What lies ahead in all directions, those of a new road among them."""
    ahead = keys_ahead(net, standing)
    ahead[(u, v)] = at_v
    ahead[(v, u)] = at_u
    return ahead


def ahead_with_house(net, standing, ends):
    """What lies ahead in all directions, those of the roads of a new house among them."""
    ahead = keys_ahead(net, standing)
    for house, here, there in ends:
        ahead[(house, net[0])] = here
        ahead[(net[0], house)] = there
    return ahead


def road_out(net, standing, u, v):
    """The net and the standing without a road."""
    check_road(net, standing, u, v)
    ahead = keys_ahead(net, standing)
    return net_with(net[0], {pair: keys for pair, keys in ahead.items() if pair not in ((u, v), (v, u))})


def road_in(net, standing, u, v, at_u, at_v):
    """The net and the standing with a new road."""
    check_standing(net, standing)
    check_new_road(net, u, v, at_u, at_v)
    return net_with(net[0], ahead_with_road(net, standing, u, v, at_u, at_v))


def key_in(net, standing, u, v):
    """The net and the standing with one key more at v's end of a road."""
    check_road(net, standing, u, v)
    ahead = keys_ahead(net, standing)
    ahead[(u, v)] += 1
    return net_with(net[0], ahead)


def key_out(net, standing, u, v):
    """The net and the standing with one key less at v's end of a road."""
    check_road(net, standing, u, v)
    ahead = keys_ahead(net, standing)
    if not may_lose_key(ahead, (u, v)):
        raise InvalidNumber(ahead[(u, v)])
    ahead[(u, v)] -= 1
    return net_with(net[0], ahead)


def may_lose_key(ahead, pair):
    """Whether a key lies ahead in a direction, and is not the only one of its road."""
    return ahead[pair] > 0 and ahead[pair] + ahead[(pair[1], pair[0])] > 1


def house_in(net, standing, ends):
    """The net and the standing with a new house behind all others, and with its roads."""
    check_ends(net, standing, ends)
    return net_with(net[0] + 1, ahead_with_house(net, standing, ends))


def house_out(net, standing, house):
    """The net and the standing without a house and its roads."""
    check_standing(net, standing)
    check_house(net, house)
    if net[0] == 1:
        raise InvalidHouse(house)
    ahead = keys_ahead(net, standing)
    left = {(number_without(one, house), number_without(other, house)): keys
            for (one, other), keys in ahead.items() if house not in (one, other)}
    return net_with(net[0] - 1, left)


def number_without(house, gone):
    """The number of a house behind the going of another one."""
    return house - 1 if house > gone else house


def ring_by(net, standing, u, v, at_u, at_v):
    """The first stuck ring that has a new road in it, None if there is none."""
    check_standing(net, standing)
    check_new_road(net, u, v, at_u, at_v)
    if at_u > 0 and at_v > 0:
        return None
    tail, head = (u, v) if at_v == 0 else (v, u)
    heads = waiting_heads(ahead_with_road(net, standing, u, v, at_u, at_v))
    # Whoever comes to this end of the new road goes on over it.
    heads[tail] = [head]
    return first_ring_through(heads, tail)


def places_for(net, standing, u, v, many):
    """How many of so many keys of a new road may lie at u's end, so that there comes no stuck ring."""
    check_standing(net, standing)
    check_apart(net, u, v)
    if not is_whole(many) or many < 1:
        raise InvalidNumber(many)
    ahead = keys_ahead(net, standing)
    places = list(range(1, many))
    if lengths_from(ahead, [u]).get(v) != 0:
        places.insert(0, 0)
    if lengths_from(ahead, [v]).get(u) != 0:
        places.append(many)
    return places


def ring_by_house(net, standing, ends):
    """The first stuck ring that has a new house in it, None if there is none."""
    check_ends(net, standing, ends)
    return first_ring_through(waiting_heads(ahead_with_house(net, standing, ends)), net[0])


def counts_with(net, standing, resting, u, v, at_u, at_v):
    """How often each house works with a new road, if some rest, None if it works without end."""
    check_standing(net, standing)
    check_resting(net, resting)
    check_new_road(net, u, v, at_u, at_v)
    return by_house(net, counts_past(ahead_with_road(net, standing, u, v, at_u, at_v), resting))


def kept_counts(net, standing, resting):
    """The list, in order, of the directions in which a key can be taken away and no count changes."""
    check_standing(net, standing)
    check_resting(net, resting)
    ahead = keys_ahead(net, standing)
    counts = counts_past(ahead, resting)
    return [pair for pair in sorted(ahead)
            if may_lose_key(ahead, pair) and counts_past(with_one_less(ahead, pair), resting) == counts]


def with_one_less(ahead, pair):
    """What lies ahead in all directions if one key is taken away."""
    fewer = dict(ahead)
    fewer[pair] -= 1
    return fewer
