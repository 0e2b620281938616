"""Keys against times, over houses, roads and rings, for arguments that are known to be right.

A house is ahead of a neighbour by its time and behind by a period for each key that
lies ahead. Weights are the latter less the former, all multiplied by what stands
below in the period: if they add up to less than 0 on a way round, no house on it
keeps to the period.
"""

from math import gcd

from keyroads.lengths import ring_keys


def lowest(above, below):
    """A fraction without a common factor."""
    common = gcd(above, below)
    return (above // common, below // common)


def weights_by(ahead, times, above, below):
    """The weights of all directions for the period of `above` by `below`."""
    return {pair: above * keys - below * times[pair[0]] for pair, keys in ahead.items()}


def settle(weights, houses):
    """A tuple of numbers for houses and of a ring, one of both being None.

    The numbers are the greatest ones, at most 0, that grow by no more than the
    weight on each step; where there are none, the ring is one whose weights add up
    to less than 0, perhaps of a single road that is gone there and back.
    """
    numbers = {house: 0 for house in houses}
    before = {}
    last = None
    for _ in range(len(houses)):
        last = None
        for (tail, head), weight in weights.items():
            if numbers[tail] + weight < numbers[head]:
                numbers[head] = numbers[tail] + weight
                before[head] = tail
                last = head
        if last is None:
            return (numbers, None)
    # What still changes this late does so because of a ring behind it, no further away than this.
    for _ in range(len(houses)):
        last = before[last]
    return (None, ring_behind(before, last))


def ring_behind(before, house):
    """The ring from a house back to itself, in the direction of the steps."""
    ring = [house]
    while before[ring[-1]] != house:
        ring.append(before[ring[-1]])
    return ring[::-1]


def ratio_of(ahead, times, some):
    """The keys and the times of a house, a road or a ring: a fraction, perhaps with a common factor."""
    keys = 1 if len(some) == 1 else ring_keys(ahead, some)
    return (keys, sum([times[house] for house in some]))


def rate_of(ahead, times, part):
    """The rate of a joined part, whose directions alone are in `ahead`."""
    above, below = 1, max([times[house] for house in part])
    ring = settle(weights_by(ahead, times, below, above), part)[1]
    while ring is not None:
        # Each ring found is slower than all ahead of it.
        above, below = ratio_of(ahead, times, ring)
        ring = settle(weights_by(ahead, times, below, above), part)[1]
    return lowest(above, below)
