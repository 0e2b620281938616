"""Lists of works: which of them runs do, by which runs, and what must come ahead in these."""

from keyroads.checks import check_count, check_house, check_standing, check_works
from keyroads.circles import houses_on_rings, rings_in, waiting_heads
from keyroads.errors import InvalidHouse, InvalidNumber, InvalidRun, TooMany, Unlike
from keyroads.kinds import fits_pair, fits_ring, is_counts, is_whole
from keyroads.lengths import by_house, lengths_from, lengths_to, ring_keys
from keyroads.orders import count_turned, exchanged, first_turned, places_in
from keyroads.roads import hand_over, has_keys, keys_ahead, near_of
from keyroads.works import is_run

MOST_LISTS = 2000
MOST_RUNS = 300


def is_done_by_some(ahead, works):
    """Whether some run does these works."""
    if first_broken(ahead, works) is not None:
        return False
    return all([works[house] == 0 for house in houses_on_rings(ahead)])


def first_broken(ahead, works):
    """The first direction (u, v) on which v is further ahead of u than keys lie ahead, or None."""
    for one, other in sorted(ahead):
        if works[other] > works[one] + ahead[(one, other)]:
            return (one, other)
    return None


def are_works(net, standing, value):
    """Whether a value is a list of works that some run does."""
    check_standing(net, standing)
    return is_counts(value, net[0]) and is_done_by_some(keys_ahead(net, standing), value)


def run_for(net, standing, works):
    """The first run that does these works, None if there is none."""
    check_standing(net, standing)
    check_works(net, works)
    ahead = keys_ahead(net, standing)
    if not is_done_by_some(ahead, works):
        return None
    near = near_of(net)
    left = list(works)
    run = []
    for _ in range(sum(works)):
        # Whoever can work and has works left may be the next one: all others stay possible.
        house = min([at for at in range(net[0]) if left[at] > 0 and has_keys(near, ahead, at)])
        left[house] -= 1
        hand_over(near, ahead, house)
        run.append(house)
    return run


def bar_of(net, standing, works):
    """What bars a list of works, None if some run does them."""
    check_standing(net, standing)
    check_works(net, works)
    ahead = keys_ahead(net, standing)
    broken = first_broken(ahead, works)
    if broken is not None:
        return ("road", broken[0], broken[1])
    # No direction is broken, so all houses of a stuck ring work equally often.
    working = {pair: keys for pair, keys in ahead.items() if works[pair[0]] > 0}
    found = rings_in(waiting_heads(working), 1)
    if found:
        return ("ring", found[0])
    return None


def is_bar(net, standing, works, value):
    """Whether a value is something that bars a list of works."""
    check_standing(net, standing)
    check_works(net, works)
    if not isinstance(value, tuple) or len(value) not in (2, 3):
        return False
    ahead = keys_ahead(net, standing)
    if len(value) == 3:
        pair = value[1:]
        if value[0] != "road" or not fits_pair(net, pair) or pair not in ahead:
            return False
        return works[pair[1]] > works[pair[0]] + ahead[pair]
    ring = value[1]
    if value[0] != "ring" or not fits_ring(net, ring) or ring_keys(ahead, ring) > 0:
        return False
    return any([works[house] > 0 for house in ring])


def how_many_runs(net, standing, works):
    """How many runs do a list of works."""
    check_standing(net, standing)
    check_works(net, works)
    many = 1
    for number in works:
        many *= number + 1
    if many > MOST_LISTS:
        raise TooMany(many)
    ahead = keys_ahead(net, standing)
    near = near_of(net)
    ways = {tuple([0] * net[0]): 1}
    for _ in range(sum(works)):
        ways = one_work_more(near, ahead, works, ways)
    return ways.get(tuple(works), 0)


def one_work_more(near, ahead, works, ways):
    """How many runs do each list with one work more, of those that do not pass `works`."""
    later = {}
    for behind, many in ways.items():
        for house in next_houses(near, ahead, works, behind):
            gone = with_one_more(behind, house)
            later[gone] = later.get(gone, 0) + many
    return later


def with_one_more(behind, house):
    """The works behind one more work of a house."""
    return behind[:house] + (behind[house] + 1,) + behind[house + 1:]


def next_houses(near, ahead, works, behind):
    """The houses that can work behind the works `behind` and have some of `works` left."""
    return [house for house in range(len(works)) if behind[house] < works[house]
            and all([ahead[(other, house)] + behind[other] > behind[house] for other in near.get(house, [])])]


def all_runs(net, standing, works):
    """The list of all runs that do a list of works, in order."""
    many = how_many_runs(net, standing, works)
    if many > MOST_RUNS:
        raise TooMany(many)
    if many == 0:
        return []
    ahead = keys_ahead(net, standing)
    near = near_of(net)
    found = [([], tuple([0] * net[0]))]
    for _ in range(sum(works)):
        found = [(run + [house], with_one_more(behind, house)) for run, behind in found
                 for house in next_houses(near, ahead, works, behind)]
    return [run for run, _ in found]


def always_ahead(net, standing, u, i, v, j):
    """Whether u's work i comes ahead of v's work j in every run in which v works so often."""
    check_standing(net, standing)
    check_house(net, u)
    check_work_number(i)
    check_house(net, v)
    if v == u:
        raise InvalidHouse(v)
    check_work_number(j)
    ahead = keys_ahead(net, standing)
    most = lengths_from(ahead, houses_on_rings(ahead)).get(v)
    if most is not None and j > most:
        return True
    length = lengths_from(ahead, [u]).get(v)
    return length is not None and i <= j - length


def check_work_number(number):
    """InvalidNumber unless it is a whole number of at least 1."""
    if not is_whole(number) or number < 1:
        raise InvalidNumber(number)


def needed_works(net, standing, house, number):
    """The least list of works in which a house works so often, None if it never does."""
    check_standing(net, standing)
    check_house(net, house)
    check_count(number)
    ahead = keys_ahead(net, standing)
    most = lengths_from(ahead, houses_on_rings(ahead)).get(house)
    if most is not None and number > most:
        return None
    lengths = by_house(net, lengths_to(ahead, house))
    return [0 if length is None else max(0, number - length) for length in lengths]


def check_two_runs(net, standing, one, other):
    """InvalidRun and Unlike unless they are two runs that do the same works."""
    for run in (one, other):
        if not is_run(net, standing, run):
            raise InvalidRun(run)
    if sorted(one) != sorted(other):
        raise Unlike(other)


def steps_between(net, standing, one, other):
    """How many exchanges of neighbouring works lead from one run to another at the least."""
    check_two_runs(net, standing, one, other)
    return count_turned(places_in(one, other))


def led_over(net, standing, one, other):
    """The runs from one to another, each of which exchanges the first two that stand the other way round."""
    check_two_runs(net, standing, one, other)
    places = places_in(one, other)
    run = list(one)
    found = [run]
    at = first_turned(places)
    while at is not None:
        places = exchanged(places, at)
        run = exchanged(run, at)
        found.append(run)
        at = first_turned(places)
    return found
