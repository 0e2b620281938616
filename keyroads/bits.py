"""Few bits: houses that keep on disk only a rest of how often they worked."""

from math import lcm

from keyroads.checks import check_house, check_net
from keyroads.letters import marks_of, pass_on
from keyroads.roads import all_directions, keys_ahead, near_of
from keyroads.wire import wire_behind


def size_of(net, house):
    """How many rests a house has to tell apart."""
    size = 1
    for low, high, many in net[1]:
        if house in (low, high):
            size = lcm(size, many + 1)
    return size


def disk_size(net, house):
    """By how much a house may take the rest of its works, and keep it in place of these."""
    check_net(net)
    check_house(net, house)
    return size_of(net, house)


class SmallWire:
    """What houses and lines hold behind the events up to now, if the houses keep rests alone."""

    def __init__(self, net, standing):
        self.near = near_of(net)
        self.pairs = all_directions(net)
        self.marks = marks_of(net)
        self.first = keys_ahead(net, standing)
        self.sizes = [size_of(net, house) for house in range(net[0])]
        self.rests = [0] * net[0]
        self.rested = {}
        self.keys_by = {pair: None for pair in self.pairs}
        self.lines = {pair: [] for pair in self.pairs}

    def happen(self, event):
        """Go on behind an event that is possible now."""
        word, house = event[0], event[1]
        if word == "work":
            self.rests[house] = (self.rests[house] + 1) % self.sizes[house]
            for other in self.near.get(house, []):
                self.keys_by[(other, house)] -= 1
        elif word == "rest":
            self.rested[house] = True
        elif word == "fall":
            for other in self.near.get(house, []):
                self.keys_by[(other, house)] = None
        else:
            pair = event[1:3]
            letter = pass_on(self.lines[pair], event, self.rests[house] % self.marks[pair])
            if letter is not None:
                self.keys_by[pair] = (self.first[pair] + letter - self.rests[pair[1]]) % self.marks[pair]


def small_after(net, standing, events):
    """What stands so behind a script: rests, resting houses, what is believed, and the letters on all lines."""
    wire_behind(net, standing, events)
    small = SmallWire(net, standing)
    for event in events:
        small.happen(event)
    keys = [small.keys_by[pair] for pair in small.pairs]
    return (list(small.rests), sorted(small.rested), keys, [list(small.lines[pair]) for pair in small.pairs])
