"""Which directions bind houses by themselves, and what is known of works by those of some houses."""

from keyroads.checks import check_free, check_house, check_standing
from keyroads.circles import houses_on_rings
from keyroads.errors import InvalidWay, InvalidWorks
from keyroads.kinds import fits_directions, fits_house, is_ascending, is_count, is_counts
from keyroads.lengths import lengths_from, lengths_to
from keyroads.roads import keys_ahead


def check_some(net, standing, some):
    """The errors of a free standing and of a list of directions."""
    check_free(net, standing)
    if not fits_directions(net, some):
        raise InvalidWay(some)


def without(ahead, some):
    """What lies ahead in all directions that are not among some."""
    return {pair: keys for pair, keys in ahead.items() if pair not in some}


def is_needed(ahead, pair):
    """Whether no way but the step itself binds two neighbours as much."""
    length = lengths_from(without(ahead, [pair]), [pair[0]]).get(pair[1])
    return length is None or length > ahead[pair]


def needed(net, standing):
    """The list, in order, of the directions whose bound no others make up for."""
    check_free(net, standing)
    ahead = keys_ahead(net, standing)
    return [pair for pair in sorted(ahead) if is_needed(ahead, pair)]


def are_needless(net, standing, some):
    """Whether the bounds of all other directions let no further list of works by."""
    check_some(net, standing, some)
    ahead = keys_ahead(net, standing)
    return not any([is_needed(ahead, pair) for pair in some])


def breaks(ahead, pair, works):
    """Whether works break the bound of a direction."""
    return works[pair[1]] > works[pair[0]] + ahead[pair]


def is_breaking(net, standing, some, value):
    """Whether a value is a list of works that breaks bounds of some directions and of no others."""
    check_some(net, standing, some)
    if not is_counts(value, net[0]):
        return False
    ahead = keys_ahead(net, standing)
    if any([breaks(ahead, pair, value) for pair in without(ahead, some)]):
        return False
    return any([breaks(ahead, pair, value) for pair in some])


def breaking(net, standing, some):
    """A list of works that breaks bounds of some directions and of no others, None if there is none."""
    check_some(net, standing, some)
    ahead = keys_ahead(net, standing)
    for pair in some:
        if is_needed(ahead, pair):
            lengths = lengths_from(without(ahead, some), [pair[0]])
            # One more than the bound is enough, and keeps houses without a way within it, too.
            most = ahead[pair] + 1
            return [min(most, lengths.get(house, most)) for house in range(net[0])]
    return None


def fits_known(net, value):
    """Whether a value is a list, in order, of houses, each once, and of their works."""
    if not isinstance(value, list) or not all([fits_known_one(net, item) for item in value]):
        return False
    return is_ascending([item[0] for item in value])


def fits_known_one(net, value):
    """Whether a value is a tuple of a house and of a count."""
    return isinstance(value, tuple) and len(value) == 2 and fits_house(net, value[0]) and is_count(value[1])


def check_known(net, known):
    """InvalidWorks unless it is a list, in order, of houses, each once, and of their works."""
    if not fits_known(net, known):
        raise InvalidWorks(known)


def is_met(ahead, known):
    """Whether at some moment of some run these houses have worked just so often."""
    bounds = lengths_from(ahead, houses_on_rings(ahead))
    for house, works in known:
        lengths = lengths_from(ahead, [house])
        if house in bounds and works > bounds[house]:
            return False
        if any([other in lengths and later > works + lengths[other] for other, later in known]):
            return False
    return True


def least_by(ahead, house, known):
    """How often a house has worked at the least when others have worked so often."""
    lengths = lengths_from(ahead, [house])
    return max([0] + [works - lengths[other] for other, works in known if other in lengths])


def most_by(ahead, house, known):
    """How often a house has worked at the most when others have worked so often, None if there is no most."""
    lengths = lengths_to(ahead, house)
    bounds = [works + lengths[other] for other, works in known if other in lengths]
    bounds.extend([lengths[other] for other in houses_on_rings(ahead) if other in lengths])
    return min(bounds, default=None)


def can_be(net, standing, known):
    """Whether at some moment of some run all these houses have worked just so often."""
    check_standing(net, standing)
    check_known(net, known)
    return is_met(keys_ahead(net, standing), known)


def window(net, standing, house, known):
    """The least and the greatest number of works of a house at such moments, None if there are none."""
    check_standing(net, standing)
    check_house(net, house)
    check_known(net, known)
    ahead = keys_ahead(net, standing)
    if not is_met(ahead, known):
        return None
    return (least_by(ahead, house, known), most_by(ahead, house, known))


def least_works(net, standing, known):
    """The works of all houses at the moment at which each has worked the least, None if there is none."""
    check_standing(net, standing)
    check_known(net, known)
    ahead = keys_ahead(net, standing)
    if not is_met(ahead, known):
        return None
    return [least_by(ahead, house, known) for house in range(net[0])]
