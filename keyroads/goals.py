"""Goals: the one standing in which a goal alone can work, and how all come there if it rests.

All nets here are joined, and all standings are without stuck rings: so counts and
least lengths are the same, and there is one for each house.
"""

from keyroads.checks import check_house, check_joined, check_joined_free
from keyroads.circles import has_stuck_ring
from keyroads.ends import run_by_picks
from keyroads.lengths import by_house, lengths_from
from keyroads.nets import all_standings
from keyroads.roads import able_among, keys_ahead, near_of, shifted


def check_goal(net, standing, goal):
    """The errors of a joined net, a standing without stuck rings and a goal."""
    check_joined_free(net, standing)
    check_house(net, goal)


def check_two_goals(net, standing, one, other):
    """The errors of a joined net, a standing without stuck rings and two houses, which may be the same."""
    check_joined_free(net, standing)
    check_house(net, one)
    check_house(net, other)


def works_to_goal(net, standing, goal):
    """How often each house works until all stands still because the goal rests."""
    return by_house(net, lengths_from(keys_ahead(net, standing), [goal]))


def at_goal(net, standing, goal):
    """The standing of a goal."""
    return shifted(net, standing, works_to_goal(net, standing, goal))


def able_houses(net, standing):
    """The ascending list of the houses that can work."""
    return able_among(near_of(net), keys_ahead(net, standing), list(range(net[0])))


def goal_standing(net, standing, goal):
    """The standing in which everything stands still at last if the goal rests."""
    check_goal(net, standing, goal)
    return at_goal(net, standing, goal)


def goal_works(net, standing, goal):
    """How often each house works until then."""
    check_goal(net, standing, goal)
    return works_to_goal(net, standing, goal)


def is_goal_standing(net, standing, goal):
    """Whether the goal can work, and no other house can."""
    check_goal(net, standing, goal)
    return able_houses(net, standing) == [goal]


def goal_standings(net, standing):
    """The list of the standings of all goals, in order."""
    check_joined_free(net, standing)
    return [at_goal(net, standing, goal) for goal in range(net[0])]


def lone_workers(net, standing):
    """The ascending list of the houses that can work: one at least."""
    check_joined_free(net, standing)
    return able_houses(net, standing)


def how_many_for_goal(net, goal):
    """How many standings without stuck rings let just this house work; TooMany if the net has too many standings."""
    check_joined(net)
    check_house(net, goal)
    standings = [standing for standing in all_standings(net) if able_houses(net, standing) == [goal]]
    return len([standing for standing in standings if not has_stuck_ring(keys_ahead(net, standing))])


def goal_road(net, standing, one, other):
    """How often each house works from the standing of one goal to that of the other."""
    check_two_goals(net, standing, one, other)
    return works_to_goal(net, at_goal(net, standing, one), other)


def there_and_back(net, standing, one, other):
    """How often each house works from the standing of one goal to that of the other and back."""
    check_two_goals(net, standing, one, other)
    ahead = keys_ahead(net, standing)
    return lengths_from(ahead, [one])[other] + lengths_from(ahead, [other])[one]


def goal_run(net, standing, goal):
    """The run to the standing of a goal in which at each step the least house works that can, but the goal."""
    check_goal(net, standing, goal)
    return run_by_picks(net, standing, [goal], [])
