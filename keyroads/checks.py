"""Checks of arguments: each raises the error that the document names, or returns nothing."""

from keyroads.circles import has_stuck_ring, reached_from
from keyroads.errors import InvalidHouse, InvalidHouses, InvalidNet, InvalidNumber, InvalidStanding
from keyroads.errors import InvalidTimes, InvalidWorks
from keyroads.kinds import fits_house, fits_net, fits_resting, fits_standing, fits_times
from keyroads.kinds import is_count, is_count_list, is_counts
from keyroads.roads import all_directions, keys_ahead, near_of

MOST_BEATS = 500


def check_net(net):
    """InvalidNet unless it is a net."""
    if not fits_net(net):
        raise InvalidNet(net)


def check_standing(net, standing):
    """InvalidNet and then InvalidStanding unless they are a net and a standing of it."""
    check_net(net)
    if not fits_standing(net, standing):
        raise InvalidStanding(standing)


def check_two_standings(net, standing, other):
    """InvalidNet and then InvalidStanding unless they are a net and two standings of it."""
    check_standing(net, standing)
    if not fits_standing(net, other):
        raise InvalidStanding(other)


def check_free(net, standing):
    """InvalidNet and InvalidStanding unless the standing has no stuck ring."""
    check_standing(net, standing)
    if has_stuck_ring(keys_ahead(net, standing)):
        raise InvalidStanding(standing)


def check_joined(net):
    """InvalidNet unless it is a net in which ways lead from each house to each other one."""
    check_net(net)
    if len(reached_from(near_of(net), [0])) < net[0]:
        raise InvalidNet(net)


def check_joined_free(net, standing):
    """InvalidNet and InvalidStanding unless the net is joined and the standing has no stuck ring."""
    check_joined(net)
    check_free(net, standing)


def check_house(net, house):
    """InvalidHouse unless it is a house of the net."""
    if not fits_house(net, house):
        raise InvalidHouse(house)


def check_neighbour(net, one, other):
    """InvalidHouse with the other one unless it is a neighbour of the one, which is a house."""
    if not fits_house(net, other) or (one, other) not in all_directions(net):
        raise InvalidHouse(other)


def check_road(net, standing, one, other):
    """The errors of a net, a standing and two neighbours."""
    check_standing(net, standing)
    check_house(net, one)
    check_neighbour(net, one, other)


def check_resting(net, resting):
    """InvalidHouses unless it is an ascending list of houses, each once."""
    if not fits_resting(net, resting):
        raise InvalidHouses(resting)


def check_works(net, works):
    """InvalidWorks unless it is a list of counts, one for each house."""
    if not is_counts(works, net[0]):
        raise InvalidWorks(works)


def check_count(number):
    """InvalidNumber unless it is a count."""
    if not is_count(number):
        raise InvalidNumber(number)


def check_picks(picks):
    """InvalidNumber unless it is a list of counts."""
    if not is_count_list(picks):
        raise InvalidNumber(picks)


def check_timed(net, standing, times):
    """The errors of a net, a standing and times for its houses."""
    check_standing(net, standing)
    if not fits_times(net, times):
        raise InvalidTimes(times)


def check_beats(many):
    """InvalidNumber unless it is a count of at most 500."""
    if not is_count(many) or many > MOST_BEATS:
        raise InvalidNumber(many)
