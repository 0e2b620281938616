"""How often each house works in all if some houses rest."""

from keyroads.checks import check_house, check_picks, check_resting, check_standing
from keyroads.ends import counts_past, ends_of, run_by_picks
from keyroads.errors import InvalidRun
from keyroads.kinds import fits_house_list, fits_way, is_count
from keyroads.lengths import by_house, first_way_from, lengths_to, way_keys
from keyroads.roads import able_among, awake_houses, go_through, keys_ahead, near_of, shifted


def check_rest(net, standing, resting):
    """The errors of the first three arguments of all functions of this module."""
    check_standing(net, standing)
    check_resting(net, resting)


def counts(net, standing, resting):
    """For each house, how often it works if these rest, None if it works without end."""
    check_rest(net, standing, resting)
    return by_house(net, counts_past(keys_ahead(net, standing), resting))


def count_way(net, standing, resting, house):
    """The first of the best ways from an end to a house, None if there is none."""
    check_rest(net, standing, resting)
    check_house(net, house)
    ahead = keys_ahead(net, standing)
    return first_way_from(ahead, ends_of(ahead, resting), house)


def is_count_way(net, standing, resting, house, value):
    """Whether a value is a way from an end to a house with the least length."""
    check_rest(net, standing, resting)
    check_house(net, house)
    if not fits_way(net, value) or value[-1] != house:
        return False
    ahead = keys_ahead(net, standing)
    if value[0] not in ends_of(ahead, resting):
        return False
    return way_keys(ahead, value) == counts_past(ahead, resting)[house]


def are_counts(net, standing, resting, value):
    """Whether a value is the list of counts, told by looking at one road at a time."""
    check_rest(net, standing, resting)
    if not isinstance(value, list) or len(value) != net[0]:
        return False
    if not all([item is None or is_count(item) for item in value]):
        return False
    ahead = keys_ahead(net, standing)
    ends = ends_of(ahead, resting)
    near = near_of(net)
    return all([is_bounded(near, ahead, ends, value, house) for house in range(net[0])])


def is_bounded(near, ahead, ends, numbers, house):
    """Whether the number of a house is what its neighbours' numbers make it."""
    number = numbers[house]
    others = near.get(house, [])
    if number is None:
        # A neighbour with a number finds out by itself that this house has none.
        return house not in ends
    if not all([numbers[other] is not None for other in others]):
        return False
    bounds = [numbers[other] + ahead[(other, house)] for other in others]
    if not all([number <= bound for bound in bounds]):
        return False
    if house in ends:
        return number == 0
    return number in bounds


def last_standing(net, standing, resting):
    """The standing in which all runs past the resting houses end, None if a house works without end."""
    check_rest(net, standing, resting)
    numbers = counts_past(keys_ahead(net, standing), resting)
    if len(numbers) < net[0]:
        return None
    return shifted(net, standing, by_house(net, numbers))


def ending_run(net, standing, resting, picks):
    """A run past the resting houses that cannot be gone on, None if a house works without end."""
    check_rest(net, standing, resting)
    check_picks(picks)
    if len(counts_past(keys_ahead(net, standing), resting)) < net[0]:
        return None
    return run_by_picks(net, standing, resting, picks)


def is_ending(net, standing, resting, value):
    """Whether a value is a run past the resting houses that cannot be gone on."""
    check_rest(net, standing, resting)
    ahead = keys_ahead(net, standing)
    near = near_of(net)
    if not fits_house_list(net, value) or not go_through(near, ahead, value, resting):
        return False
    return not able_among(near, ahead, awake_houses(net, resting))


def counts_behind(net, standing, resting, run):
    """The counts from the standing behind a run past the resting houses on."""
    check_rest(net, standing, resting)
    ahead = keys_ahead(net, standing)
    if not fits_house_list(net, run) or not go_through(near_of(net), ahead, run, resting):
        raise InvalidRun(run)
    return by_house(net, counts_past(ahead, resting))


def bounding(net, standing, resting, house):
    """The ascending list of the ends from which a way to a house has the least length."""
    check_rest(net, standing, resting)
    check_house(net, house)
    ahead = keys_ahead(net, standing)
    lengths = lengths_to(ahead, house)
    number = counts_past(ahead, resting).get(house)
    return [end for end in ends_of(ahead, resting) if end in lengths and lengths[end] == number]


def worth_resting(net, standing, resting, house):
    """The ascending list of the houses that, if they rested, too, would make a house's number less."""
    check_rest(net, standing, resting)
    check_house(net, house)
    ahead = keys_ahead(net, standing)
    lengths = lengths_to(ahead, house)
    number = counts_past(ahead, resting).get(house)
    return [other for other in sorted(lengths) if number is None or lengths[other] < number]
