"""What a house can know of the others' works, by its own number and by what it holds."""

from keyroads.checks import check_house, check_neighbour, check_works
from keyroads.kinds import is_counts
from keyroads.letters import goes_on, whole_wire
from keyroads.lengths import lengths_from
from keyroads.lists import is_done_by_some, run_for
from keyroads.needed import least_by, most_by
from keyroads.roads import keys_ahead, near_of
from keyroads.wire import wire_behind


def knower_behind(net, standing, events, house):
    """The wire behind a script; the errors of a net, a standing, a script and a house."""
    wire = wire_behind(net, standing, events)
    check_house(net, house)
    return wire


def held_of(wire, house):
    """A dict of the numbers that a house holds of its neighbours."""
    numbers = {other: wire.heard[(other, house)] for other in wire.near.get(house, [])}
    return {other: number for other, number in numbers.items() if number is not None}


def may_be(net, standing, wire, house, works):
    """Whether works, one for each house, are those behind some script that is alike for a house."""
    if works[house] != wire.works[house] or not is_done_by_some(keys_ahead(net, standing), works):
        return False
    return all([works[other] >= number for other, number in held_of(wire, house).items()])


def can_have_worked(net, standing, events, house, value):
    """Whether a value is the list of works behind some script that is alike for a house."""
    wire = knower_behind(net, standing, events, house)
    return is_counts(value, net[0]) and may_be(net, standing, wire, house, value)


def alike_script(net, standing, events, house, works):
    """A script that is alike for a house and has these works, None if there is none."""
    wire = knower_behind(net, standing, events, house)
    check_works(net, works)
    if not may_be(net, standing, wire, house, works):
        return None
    held = held_of(wire, house)
    near = near_of(net)
    behind = [0] * net[0]
    script = []
    for other, number in held.items():
        script.extend(last_letters(other, house, number, behind))
    for worker in run_for(net, standing, works):
        for other in near.get(worker, []):
            # What the house has to hold at the end is enough for its own works from then on.
            if worker != house or other not in held or behind[other] < held[other]:
                script.extend([("send", other, worker), ("bring", other, worker)])
        script.append(("work", worker))
        behind[worker] += 1
        if worker in held:
            script.extend(last_letters(worker, house, held[worker], behind))
    return script + [("fall", house)] + [("bring", other, house) for other in held]


def last_letters(teller, house, number, behind):
    """The letters of the number that a house has to hold of another one, once this one has it.

    One is brought now, one stays on the line until the house has fallen at the end.
    """
    if behind[teller] != number:
        return []
    return [("send", teller, house), ("bring", teller, house), ("send", teller, house)]


def is_alike_script(net, standing, events, house, value):
    """Whether a value is a script behind which a house has worked as often and holds the same."""
    wire = knower_behind(net, standing, events, house)
    other = whole_wire(net, standing)
    if not goes_on(net, other, value):
        return False
    return other.works[house] == wire.works[house] and held_of(other, house) == held_of(wire, house)


def bounds_of(ahead, wire, house, other):
    """How often another house has worked at the least and at the most, as far as a house can know."""
    own = [(house, wire.works[house])]
    return (least_by(ahead, other, own + list(held_of(wire, house).items())), most_by(ahead, other, own))


def known(net, standing, events, house, other):
    """How often another house has worked at the least and at the most, behind all scripts alike for a house."""
    wire = knower_behind(net, standing, events, house)
    check_house(net, other)
    return bounds_of(keys_ahead(net, standing), wire, house, other)


def all_known(net, standing, events, house):
    """The list of these tuples for all houses."""
    wire = knower_behind(net, standing, events, house)
    ahead = keys_ahead(net, standing)
    return [bounds_of(ahead, wire, house, other) for other in range(net[0])]


def least_there(ahead, lengths, bounds, u, v):
    """How many keys lie at v's end at the least, by the lengths from u and by what is known of all works."""
    most_ahead = lengths[v]
    if bounds[v][1] is not None:
        most_ahead = min(most_ahead, bounds[v][1] - bounds[u][0])
    return ahead[(u, v)] - most_ahead


def surely_there(net, standing, events, house, u, v):
    """How many keys of a road lie at v's end at the least, behind all scripts alike for a house."""
    bounds = all_known(net, standing, events, house)
    check_house(net, u)
    check_neighbour(net, u, v)
    ahead = keys_ahead(net, standing)
    return least_there(ahead, lengths_from(ahead, [u]), bounds, u, v)


def surely_able(net, standing, events, house):
    """The ascending list of the houses that have a key on each of their roads behind all these scripts."""
    bounds = all_known(net, standing, events, house)
    ahead = keys_ahead(net, standing)
    lacking = {}
    for one, others in near_of(net).items():
        lengths = lengths_from(ahead, [one])
        for other in others:
            if least_there(ahead, lengths, bounds, one, other) < 1:
                lacking[other] = True
    return [other for other in range(net[0]) if other not in lacking]
