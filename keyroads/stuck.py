"""Stuck rings: who never works, the papers that there is none, and how keys are put ahead to free them."""

from keyroads.checks import check_house, check_net, check_standing
from keyroads.circles import has_stuck_ring, houses_on_rings, reached_from, rings_in, waiting_heads, waiting_pairs
from keyroads.cuts import fewest_to_leave_away, first_to_leave_away, lots_of, products_in_lots, sizes_of_lots
from keyroads.errors import InvalidWay, TooMany
from keyroads.kinds import fits_directions, fits_ring, is_counts
from keyroads.lengths import first_way, ring_keys
from keyroads.roads import keys_ahead, standing_of

MOST_STUCK = 200


def stuck_ring(net, standing):
    """The first stuck ring, None if there is none."""
    check_standing(net, standing)
    found = rings_in(waiting_heads(keys_ahead(net, standing)), 1)
    if found:
        return found[0]
    return None


def stuck_rings(net, standing):
    """The list of all stuck rings, in order; TooMany with 201 if they are more than 200."""
    check_standing(net, standing)
    found = rings_in(waiting_heads(keys_ahead(net, standing)), MOST_STUCK + 1)
    if len(found) > MOST_STUCK:
        raise TooMany(MOST_STUCK + 1)
    return found


def is_stuck_ring(net, standing, value):
    """Whether a value is a stuck ring."""
    check_standing(net, standing)
    return fits_ring(net, value) and ring_keys(keys_ahead(net, standing), value) == 0


def numbering(net, standing):
    """The first numbering, in order, None if there is a stuck ring."""
    check_standing(net, standing)
    ahead = keys_ahead(net, standing)
    if has_stuck_ring(ahead):
        return None
    heads = waiting_heads(ahead)
    numbers = {}
    # The greatest numbers go first, each to the greatest house that may have it: so
    # the lesser houses keep the lesser numbers.
    for number in reversed(range(net[0])):
        free = [house for house in range(net[0])
                if house not in numbers and all([head in numbers for head in heads.get(house, [])])]
        numbers[free[-1]] = number
    return [numbers[house] for house in range(net[0])]


def is_numbering(net, standing, value):
    """Whether a value is a numbering."""
    check_standing(net, standing)
    if not is_counts(value, net[0]) or sorted(value) != list(range(net[0])):
        return False
    return all([value[one] < value[other] for one, other in waiting_pairs(keys_ahead(net, standing))])


def stuck_houses(net, standing):
    """The ascending list of all houses of stuck rings."""
    check_standing(net, standing)
    return houses_on_rings(keys_ahead(net, standing))


def never_working(net, standing):
    """The ascending list of all houses that work in no run."""
    check_standing(net, standing)
    ahead = keys_ahead(net, standing)
    return sorted(reached_from(waiting_heads(ahead), houses_on_rings(ahead)))


def held_by(net, standing, house):
    """The first way of the length 0 from a stuck house to a house, None if there is none."""
    check_standing(net, standing)
    check_house(net, house)
    ahead = keys_ahead(net, standing)
    waiting = {pair: 0 for pair in waiting_pairs(ahead)}
    for start in houses_on_rings(ahead):
        way = first_way(waiting, start, house)
        if way is not None:
            return way
    return None


def are_moves(net, standing, value):
    """Whether a value is a list of directions as put_ahead takes it."""
    if not fits_directions(net, value):
        return False
    ahead = keys_ahead(net, standing)
    return all([ahead[(other, one)] > 0 and (other, one) not in value for one, other in value])


def moved(net, standing, moves):
    """The standing in which a key has been carried over in each of these directions."""
    ahead = keys_ahead(net, standing)
    for one, other in moves:
        ahead[(one, other)] += 1
        ahead[(other, one)] -= 1
    return standing_of(net, ahead)


def put_ahead(net, standing, moves):
    """The standing in which a key has been carried over in each direction of a list."""
    check_standing(net, standing)
    if not are_moves(net, standing, moves):
        raise InvalidWay(moves)
    return moved(net, standing, moves)


def pairs_on_rings(ahead):
    """The ascending list of the directions without a key ahead from one stuck house to another."""
    stuck = houses_on_rings(ahead)
    return [pair for pair in waiting_pairs(ahead) if pair[0] in stuck and pair[1] in stuck]


def freeing(net, standing):
    """The first list of as few moves as can be that leaves no stuck ring.

    Only a key on a direction where none lies ahead takes one away from those that
    make the rings; and those that have to go may as well be turned round, since
    each of them closes a ring with directions that stay.
    """
    check_standing(net, standing)
    return first_to_leave_away(pairs_on_rings(keys_ahead(net, standing)))


def is_freeing(net, standing, value):
    """Whether a value is a list of as few moves as can be that leaves no stuck ring."""
    check_standing(net, standing)
    if not are_moves(net, standing, value):
        return False
    if len(value) != fewest_to_leave_away(pairs_on_rings(keys_ahead(net, standing))):
        return False
    return not has_stuck_ring(keys_ahead(net, moved(net, standing, value)))


def how_many_free(net):
    """How many standings have no stuck ring, by the sum over all lots of houses."""
    check_net(net)
    houses = net[0]
    whole = products_in_lots(houses, {road[:2]: road[2] for road in net[1]})
    less = products_in_lots(houses, {road[:2]: road[2] - 1 for road in net[1]})
    sizes = sizes_of_lots(houses)
    free = [1]
    for lot in range(1, lots_of(houses)):
        free.append(0)
        part = lot
        while part > 0:
            rest = lot - part
            # The keys of all roads, without those within either side: those of the roads between.
            between = whole[lot] // (whole[part] * whole[rest])
            sign = 1 if sizes[part] & 1 else -1
            free[lot] += sign * free[rest] * between * less[part]
            part = (part - 1) & lot
    return free[-1]
