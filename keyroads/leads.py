"""By how many works one house is ever ahead of another, and the keys that ever lie on a road."""

from keyroads.checks import check_house, check_road, check_standing
from keyroads.circles import houses_on_rings, reached_from
from keyroads.ends import run_by_picks
from keyroads.kinds import fits_house_list
from keyroads.lengths import by_house, lengths_from
from keyroads.roads import go_through, keys_ahead, near_of


def check_two_houses(net, standing, one, other):
    """The errors of a net, a standing and two houses, which may be the same."""
    check_standing(net, standing)
    check_house(net, one)
    check_house(net, other)


def leads_over(ahead, one):
    """A dict of the leads of all houses over one of them, without those that have no most.

    The lesser of two least lengths is the one from both starts together.
    """
    return lengths_from(ahead, [one] + houses_on_rings(ahead))


def lead(net, standing, one, other):
    """By how many works at the most the other house is ever ahead of one, None if there is no most."""
    check_two_houses(net, standing, one, other)
    return leads_over(keys_ahead(net, standing), one).get(other)


def leads(net, standing):
    """For each house in order, the list of the leads of all houses over it."""
    check_standing(net, standing)
    ahead = keys_ahead(net, standing)
    return [by_house(net, leads_over(ahead, one)) for one in range(net[0])]


def lead_run(net, standing, one, other):
    """A run at the end of which the other house is ahead by its lead, None if there is no most."""
    most = lead(net, standing, one, other)
    if most is None:
        return None
    part = reached_from(near_of(net), [other])
    # The one never works; all else goes on as long as it can, so the other one gets its lead.
    resting = [house for house in range(net[0]) if house == one or house not in part]
    return run_by_picks(net, standing, resting, [])


def is_lead_run(net, standing, one, other, value):
    """Whether a value is a run at the end of which the other house is ahead by its lead."""
    most = lead(net, standing, one, other)
    if not fits_house_list(net, value) or not go_through(near_of(net), keys_ahead(net, standing), value, []):
        return False
    return value.count(other) - value.count(one) == most


def fewest_keys(net, standing, one, other):
    """How many keys of a road lie at the other house's end at the least, over all runs."""
    check_road(net, standing, one, other)
    ahead = keys_ahead(net, standing)
    return ahead[(one, other)] - leads_over(ahead, one)[other]


def most_keys(net, standing, one, other):
    """How many keys of a road lie at the other house's end at the most, over all runs."""
    check_road(net, standing, one, other)
    ahead = keys_ahead(net, standing)
    return ahead[(one, other)] + leads_over(ahead, other)[one]
