"""Rates: how often houses work in the long run, and timetables that keep to a period."""

from keyroads.checks import check_beats, check_house, check_timed
from keyroads.circles import parts_of, rings_in
from keyroads.errors import InvalidNumber
from keyroads.kinds import fits_house_list, fits_ring, fits_way, is_fraction
from keyroads.ratios import lowest, rate_of, ratio_of, settle, weights_by
from keyroads.roads import heads_of, keys_ahead


def ahead_in(ahead, part):
    """What lies ahead on the directions of a joined part."""
    return {pair: keys for pair, keys in ahead.items() if pair[0] in part}


def rates(net, standing, times):
    """For each house, the fraction of works a beat at which it works in the long run."""
    check_timed(net, standing, times)
    ahead = keys_ahead(net, standing)
    found = {}
    for part in parts_of(net):
        rate = rate_of(ahead_in(ahead, part), times, part)
        for house in part:
            found[house] = rate
    return [found[house] for house in range(net[0])]


def check_slowest(net, standing, times, house):
    """The errors of a net, a standing, times and a house."""
    check_timed(net, standing, times)
    check_house(net, house)


def part_with(net, house):
    """The joined part of a house."""
    return [part for part in parts_of(net) if house in part][0]


def slowest(net, standing, times, house):
    """The first list of what makes the rate of a house's part."""
    check_slowest(net, standing, times, house)
    part = part_with(net, house)
    ahead = ahead_in(keys_ahead(net, standing), part)
    above, below = rate_of(ahead, times, part)
    found = [[one] for one in part if above * times[one] == below]
    tight = tight_pairs(weights_by(ahead, times, below, above), part)
    found.extend([[one, other] for one, other in tight if one < other and (other, one) in tight])
    found.extend(rings_in(heads_of(tight), 1))
    return min(found)


def tight_pairs(weights, part):
    """The ascending list of the directions on which numbers grow by the whole weight.

    The rate lets no ring's weights add up to less than 0; so those that make just 0
    are the rings of these directions alone.
    """
    numbers = settle(weights, part)[0]
    return sorted([(tail, head) for (tail, head), weight in weights.items()
                   if numbers[tail] + weight == numbers[head]])


def is_slowest(net, standing, times, house, value):
    """Whether a value is a house, a road or a ring whose number is the rate of a house's part."""
    check_slowest(net, standing, times, house)
    if not fits_some(net, value):
        return False
    part = part_with(net, house)
    if value[0] not in part:
        return False
    ahead = ahead_in(keys_ahead(net, standing), part)
    keys, beats = ratio_of(ahead, times, value)
    return lowest(keys, beats) == rate_of(ahead, times, part)


def fits_some(net, value):
    """Whether a value is the list of a house, of a road, the lesser house first, or a ring."""
    if not fits_house_list(net, value):
        return False
    if len(value) == 1:
        return True
    if len(value) == 2:
        return value[0] < value[1] and fits_way(net, value)
    return fits_ring(net, value)


def check_period(net, standing, times, period):
    """The errors of a net, a standing, times and a period."""
    check_timed(net, standing, times)
    if not is_fraction(period) or period[0] < 1:
        raise InvalidNumber(period)


def are_numbers(net, standing, times, period, value):
    """Whether a value is a list of starting numbers for a period."""
    check_period(net, standing, times, period)
    if not isinstance(value, list) or len(value) != net[0]:
        return False
    if not all([is_fraction(number) and number[0] >= 0 for number in value]) or not is_long_enough(times, period):
        return False
    weights = weights_by(keys_ahead(net, standing), times, period[0], period[1])
    return all([keeps_to(period, value[one], value[other], weight) for (one, other), weight in weights.items()])


def is_long_enough(times, period):
    """Whether a period is at least the time of each house."""
    above, below = period
    return all([above >= below * time for time in times])


def keeps_to(period, one, other, weight):
    """Whether the number of a house's neighbour, `other`, is at least its own less a weight by the period."""
    below = period[1]
    return other[0] * one[1] * below >= (one[0] * below - weight * one[1]) * other[1]


def least_starts(net, standing, times, period):
    """The least starting numbers, multiplied by what stands below in the period, None if there are none."""
    if not is_long_enough(times, period):
        return None
    weights = weights_by(keys_ahead(net, standing), times, period[0], period[1])
    numbers = settle(weights, list(range(net[0])))[0]
    if numbers is None:
        return None
    return [-numbers[house] for house in range(net[0])]


def least_numbers(net, standing, times, period):
    """The least starting numbers for a period, None if there are none."""
    check_period(net, standing, times, period)
    numbers = least_starts(net, standing, times, period)
    if numbers is None:
        return None
    return [lowest(number, period[1]) for number in numbers]


def table_of_numbers(net, standing, times, period, many):
    """For each of the first beats, the list of the houses that start by the least numbers for a period."""
    check_period(net, standing, times, period)
    numbers = least_starts(net, standing, times, period)
    if numbers is None:
        raise InvalidNumber(period)
    check_beats(many)
    above, below = period
    found = [[] for _ in range(many)]
    for house in range(net[0]):
        moment = numbers[house]
        while whole_from(moment, below) < many:
            found[whole_from(moment, below)].append(house)
            moment += above
    return found


def whole_from(above, below):
    """The least whole number that is at least a fraction."""
    return (above + below - 1) // below
