"""Whether values are of the kinds that the functions ask for.

The functions take any value as `value`; a net that they are given is one.
"""

from math import gcd

from keyroads.roads import all_directions

MOST_TIME = 9


def is_whole(value):
    """Whether a value is a whole number; a Boolean is none."""
    return isinstance(value, int) and not isinstance(value, bool)


def is_count(value):
    """Whether a value is a whole number of at least 0."""
    return is_whole(value) and value >= 0


def is_counts(value, many):
    """Whether a value is a list of so many counts."""
    return isinstance(value, list) and len(value) == many and all([is_count(item) for item in value])


def is_count_list(value):
    """Whether a value is a list of counts."""
    return isinstance(value, list) and is_counts(value, len(value))


def is_fraction(value):
    """Whether a value is a fraction: a tuple of two whole numbers, the lower one above 0, without a common factor."""
    if not isinstance(value, tuple) or len(value) != 2 or not all([is_whole(item) for item in value]):
        return False
    return value[1] >= 1 and gcd(value[0], value[1]) == 1


def is_ascending(items):
    """Whether each item is greater than the one ahead of it."""
    return all([items[at - 1] < items[at] for at in range(1, len(items))])


def fits_road(houses, value):
    """Whether a value is a road of a net with so many houses."""
    if not isinstance(value, tuple) or len(value) != 3:
        return False
    if not all([is_count(item) for item in value]):
        return False
    low, high, many = value
    return low < high and high < houses and many >= 1


def fits_net(value):
    """Whether a value is a net."""
    if not isinstance(value, tuple) or len(value) != 2:
        return False
    houses, roads = value
    if not is_count(houses) or houses == 0 or not isinstance(roads, list):
        return False
    if not all([fits_road(houses, road) for road in roads]):
        return False
    # Without the keys: two roads of the same houses are not ascending then.
    return is_ascending([road[:2] for road in roads])


def fits_standing(net, value):
    """Whether a value is a standing of a net."""
    if not is_counts(value, len(net[1])):
        return False
    return all([at_high <= road[2] for road, at_high in zip(net[1], value)])


def fits_house(net, value):
    """Whether a value is a house of a net."""
    return is_count(value) and value < net[0]


def fits_house_list(net, value):
    """Whether a value is a list of houses of a net, in any order."""
    return isinstance(value, list) and all([fits_house(net, item) for item in value])


def fits_times(net, value):
    """Whether a value is a list of times, one for each house."""
    return is_counts(value, net[0]) and all([1 <= time <= MOST_TIME for time in value])


def fits_resting(net, value):
    """Whether a value is an ascending list of houses, each once."""
    return fits_house_list(net, value) and is_ascending(value)


def fits_pair(net, value):
    """Whether a value is a tuple of two houses of a net."""
    return isinstance(value, tuple) and len(value) == 2 and all([fits_house(net, item) for item in value])


def fits_directions(net, value):
    """Whether a value is an ascending list of directions of a net."""
    if not isinstance(value, list) or not all([fits_pair(net, item) for item in value]):
        return False
    known = {pair: True for pair in all_directions(net)}
    return all([pair in known for pair in value]) and is_ascending(value)


def fits_way(net, value):
    """Whether a value is a way of a net."""
    if not fits_house_list(net, value) or not value:
        return False
    known = {pair: True for pair in all_directions(net)}
    return all([(value[at - 1], value[at]) in known for at in range(1, len(value))])


def fits_ring(net, value):
    """Whether a value is a ring of a net, told from its least house on."""
    if not fits_house_list(net, value) or len(value) < 3:
        return False
    if len(set(value)) < len(value) or value[0] != min(value):
        return False
    return fits_way(net, value + value[:1])
