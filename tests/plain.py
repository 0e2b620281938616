"""Plain reckonings straight from the document's words, without anything of the package.

They go through all ways, all rings, all runs or all standings of small nets.
"""

import fractions
import itertools
import random

PATH = (3, [(0, 1, 1), (1, 2, 2)])
RING = (3, [(0, 1, 1), (0, 2, 1), (1, 2, 1)])
TAIL = (4, [(0, 1, 1), (0, 2, 1), (1, 2, 1), (2, 3, 1)])


def complete(houses, many):
    """The net in which each two houses have a road with so many keys."""
    return (houses, [(low, high, many) for low, high in itertools.combinations(range(houses), 2)])


def some_nets():
    """Small nets: all shapes of three houses, and a choice of other ones."""
    nets = [(1, []), (2, []), (2, [(0, 1, 1)]), (2, [(0, 1, 3)])]
    pairs = [(0, 1), (0, 2), (1, 2)]
    for keys in itertools.product((0, 1, 2), repeat=3):
        nets.append((3, [(low, high, many) for (low, high), many in zip(pairs, keys) if many]))
    nets.append(TAIL)
    nets.append((4, [(0, 1, 1), (2, 3, 1)]))
    nets.append((4, [(0, 1, 1), (0, 3, 1), (1, 2, 1), (2, 3, 1)]))
    nets.append((4, [(0, 3, 2), (1, 3, 1), (2, 3, 1)]))
    nets.append((4, [(0, 1, 1), (1, 2, 2), (1, 3, 1), (2, 3, 1)]))
    nets.append(complete(4, 1))
    nets.append((5, [(0, 1, 1), (0, 2, 1), (1, 2, 1), (3, 4, 2)]))
    return nets


def standings_of(net):
    """All standings of a net, in order."""
    return [list(item) for item in itertools.product(*[range(many + 1) for _, _, many in net[1]])]


def some_cases(most=None, seed=1):
    """Pairs of a net and a standing: all of the small nets, or so many of them."""
    cases = [(net, standing) for net in some_nets() for standing in standings_of(net)]
    if most is not None and most < len(cases):
        cases = random.Random(seed).sample(cases, most)
    return cases


def random_case(chance, houses, most_keys, density):
    """A random net with so many houses, and a standing of it."""
    roads = [(low, high, chance.randint(1, most_keys))
             for low, high in itertools.combinations(range(houses), 2) if chance.random() < density]
    return (houses, roads), [chance.randint(0, many) for _, _, many in roads]


def key_table(net, standing):
    """k(u, v) for all directions."""
    table = {}
    for (low, high, many), at_high in zip(net[1], standing):
        table[low, high] = at_high
        table[high, low] = many - at_high
    return table


def near(net, house):
    """The neighbours of a house."""
    return sorted([high for low, high, _ in net[1] if low == house] + [low for low, high, _ in net[1] if high == house])


def simple_ways(net, start):
    """All ways from a house without a house twice."""
    found = [[start]]
    for way in found:
        found.extend(way + [head] for head in near(net, way[-1]) if head not in way)
    return found


def ways_with(net, start, most):
    """All ways from a house with at most so many houses, some perhaps several times."""
    found = [[start]]
    for way in found:
        if len(way) < most:
            found.extend(way + [head] for head in near(net, way[-1]))
    return found


def length(table, way):
    """The length of a way."""
    return sum(table[pair] for pair in zip(way, way[1:]))


def ring_length(table, ring):
    """The length of a ring."""
    return length(table, ring + [ring[0]])


def all_rings(net):
    """All rings, in order."""
    found = []
    for size in range(3, net[0] + 1):
        for ring in itertools.permutations(range(net[0]), size):
            if ring[0] == min(ring) and all(two in near(net, one) for one, two in zip(ring, ring[1:] + ring[:1])):
                found.append(list(ring))
    return sorted(found)


def stuck_rings(net, standing):
    """All rings of length 0, in order."""
    table = key_table(net, standing)
    return [ring for ring in all_rings(net) if ring_length(table, ring) == 0]


def stuck_houses(net, standing):
    """The houses of all rings of length 0."""
    return sorted({house for ring in stuck_rings(net, standing) for house in ring})


def least_length(net, standing, starts, goal):
    """The least length of ways from any of these houses, None if there is none."""
    table = key_table(net, standing)
    return min([length(table, way) for start in starts for way in simple_ways(net, start) if way[-1] == goal],
               default=None)


def first_best(net, standing, starts, goal):
    """The first way without a house twice, of the least length, from any of these houses."""
    table = key_table(net, standing)
    ways = [way for start in starts for way in simple_ways(net, start) if way[-1] == goal]
    least = min([length(table, way) for way in ways], default=None)
    return min([way for way in ways if length(table, way) == least], default=None)


def needed_ones(net, standing):
    """The directions whose step is the only way of at most its length."""
    table = key_table(net, standing)
    return [(u, v) for u, v in sorted(table) if [way for way in simple_ways(net, u) if way[-1] == v
                                                 and length(table, way) <= table[u, v]] == [[u, v]]]


def can_work(net, standing, house):
    """Whether a house has a key at its end of each of its roads."""
    table = key_table(net, standing)
    return all(table[other, house] >= 1 for other in near(net, house))


def work(net, standing, house):
    """The standing behind the work of a house."""
    return [at_high + (low == house) - (high == house) for (low, high, _), at_high in zip(net[1], standing)]


def is_run(net, standing, run):
    """Whether all houses of a list can work in turn."""
    for house in run:
        if not can_work(net, standing, house):
            return False
        standing = work(net, standing, house)
    return True


def behind(net, standing, run):
    """The standing behind a run."""
    for house in run:
        standing = work(net, standing, house)
    return standing


def lists_by_runs(net, standing, most, resting=()):
    """A dict from all lists of works that runs do, at most so many for each house, to what is behind them.

    A run that does a list never passes it on the way, so none is left out.
    """
    found = {(0,) * net[0]: standing}
    waiting = [(0,) * net[0]]
    for works in waiting:
        for house in range(net[0]):
            if house not in resting and works[house] < most and can_work(net, found[works], house):
                later = works[:house] + (works[house] + 1,) + works[house + 1:]
                if later not in found:
                    found[later] = work(net, found[works], house)
                    waiting.append(later)
    return found


def runs_doing(net, standing, works):
    """All runs that do a list of works, in order."""
    houses = [house for house, many in enumerate(works) for _ in range(many)]
    return [list(run) for run in sorted(set(itertools.permutations(houses))) if is_run(net, standing, run)]


def runs_up_to(net, standing, most, resting=()):
    """All runs with at most so many works, by houses that do not rest."""
    found = [([], standing)]
    for run, here in found:
        if len(run) < most:
            found.extend((run + [house], work(net, here, house)) for house in range(net[0])
                         if house not in resting and can_work(net, here, house))
    return [run for run, _ in found]


def subsets(items):
    """All ascending lists of some of these items."""
    return [list(some) for size in range(len(items) + 1) for some in itertools.combinations(items, size)]


def later(net, standing):
    """A dict from all standings that come of one, as tuples, to the works of one of the shortest runs there."""
    found = {tuple(standing): (0,) * net[0]}
    waiting = [standing]
    for here in waiting:
        works = found[tuple(here)]
        for house in range(net[0]):
            if can_work(net, here, house):
                there = work(net, here, house)
                if tuple(there) not in found:
                    found[tuple(there)] = works[:house] + (works[house] + 1,) + works[house + 1:]
                    waiting.append(there)
    return found


def joined_parts(net):
    """The lists of houses that ways lead to one another."""
    return sorted({tuple(sorted({way[-1] for way in simple_ways(net, start)})) for start in range(net[0])})


def is_joined(net):
    """Whether ways lead from each house to each other one."""
    return len(joined_parts(net)) == 1


def is_free(net, standing):
    """Whether no ring is stuck."""
    return not stuck_rings(net, standing)


def at_rest(net, standing, resting):
    """The run in which the least house works that can and does not rest, until none can; it has to end."""
    run = []
    while True:
        ready = [house for house in range(net[0]) if house not in resting and can_work(net, standing, house)]
        if not ready:
            return run
        run.append(ready[0])
        standing = work(net, standing, ready[0])


def without_road(net, standing, one, other):
    """The net and the standing without the road of two houses."""
    kept = [(road, keys) for road, keys in zip(net[1], standing) if set(road[:2]) != {one, other}]
    return (net[0], [road for road, _ in kept]), [keys for _, keys in kept]


def beat_by_beat(net, standing, times, many, chosen=None):
    """The lists of the houses that start at so many beats, and the states behind what is done, ahead of what starts.

    All start that can, or else those of `chosen`; None if one of these cannot.
    """
    table, done_at = key_table(net, standing), {}
    found, states = [], []
    for beat in range(many):
        for house in [house for house, done in done_at.items() if done == beat]:
            del done_at[house]
            for other in near(net, house):
                table[house, other] += 1
        states.append((sorted(table.items()), sorted((house, done - beat) for house, done in done_at.items())))
        ready = [house for house in range(net[0])
                 if house not in done_at and all(table[other, house] >= 1 for other in near(net, house))]
        starting = ready if chosen is None else chosen[beat]
        if not set(starting) <= set(ready):
            return None
        for house in starting:
            done_at[house] = beat + times[house]
            for other in near(net, house):
                table[other, house] -= 1
        found.append(starting)
    return found, states


def ratio_table(net, standing, times):
    """For all houses, roads and rings, what each lets work at a beat, as fractions of Python's own."""
    table = key_table(net, standing)
    found = {(house,): fractions.Fraction(1, times[house]) for house in range(net[0])}
    for low, high, many in net[1]:
        found[low, high] = fractions.Fraction(many, times[low] + times[high])
    for ring in all_rings(net):
        found[tuple(ring)] = fractions.Fraction(ring_length(table, ring), sum(times[house] for house in ring))
    return found


def part_of(net, house):
    """The houses that ways lead to from a house, itself among them."""
    return [part for part in joined_parts(net) if house in part][0]
