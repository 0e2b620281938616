"""Works of houses, and runs."""

from keyroads.checks import check_house, check_net, check_resting, check_standing, check_works
from keyroads.ends import counts_past, run_by_picks
from keyroads.errors import InvalidHouse, InvalidRun, TooMany
from keyroads.kinds import fits_house_list
from keyroads.roads import able_among, go_through, hand_over, has_keys, keys_ahead, near_of, shifted, standing_of

MOST_WORKS = 2000


def can_work(net, standing, house):
    """Whether a house has a key at its end of each of its roads."""
    check_standing(net, standing)
    check_house(net, house)
    return has_keys(near_of(net), keys_ahead(net, standing), house)


def able(net, standing):
    """The ascending list of all houses that can work."""
    check_standing(net, standing)
    return able_among(near_of(net), keys_ahead(net, standing), list(range(net[0])))


def work(net, standing, house):
    """The standing behind the work of a house; InvalidHouse also if it cannot work."""
    if not can_work(net, standing, house):
        raise InvalidHouse(house)
    ahead = keys_ahead(net, standing)
    hand_over(near_of(net), ahead, house)
    return standing_of(net, ahead)


def is_run(net, standing, value):
    """Whether a value is a list of houses, each of which can work when its turn comes."""
    check_standing(net, standing)
    return fits_house_list(net, value) and go_through(near_of(net), keys_ahead(net, standing), value, [])


def done(net, standing, run):
    """The standing behind a run."""
    check_standing(net, standing)
    ahead = keys_ahead(net, standing)
    if not fits_house_list(net, run) or not go_through(near_of(net), ahead, run, []):
        raise InvalidRun(run)
    return standing_of(net, ahead)


def works_of(net, run):
    """How often each house stands in a list of houses."""
    check_net(net)
    if not fits_house_list(net, run):
        raise InvalidRun(run)
    works = [0] * net[0]
    for house in run:
        works[house] += 1
    return works


def behind_works(net, standing, works):
    """What each road comes to at its high house's end, whether or not a run does these works."""
    check_standing(net, standing)
    check_works(net, works)
    return shifted(net, standing, works)


def run_to_end(net, standing, resting):
    """The run in which the least house that can and does not rest works, until none can."""
    check_standing(net, standing)
    check_resting(net, resting)
    counts = counts_past(keys_ahead(net, standing), resting)
    # Who works at each turn is no matter for how long it goes on.
    if len(counts) < net[0] or sum(counts.values()) > MOST_WORKS:
        raise TooMany(MOST_WORKS + 1)
    return run_by_picks(net, standing, resting, [])
