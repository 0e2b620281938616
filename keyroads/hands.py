"""Works that take time, for arguments that are known to be right."""

from keyroads.roads import able_among, keys_ahead, near_of


class Hands:
    """The keys at all ends at a beat, and the works that houses have in hand."""

    def __init__(self, net, standing, times):
        self.near = near_of(net)
        # For each direction (u, v), how many keys lie at v's end; those in hand lie nowhere.
        self.lying = keys_ahead(net, standing)
        self.times = list(times)
        # For each house, how many beats are left of its work; 0 if it has none in hand.
        self.beats = [0] * net[0]

    def finish(self):
        """Go on to the next beat: the works that are done by then put their keys to the other ends."""
        for house in range(len(self.beats)):
            if self.beats[house] > 0:
                self.beats[house] -= 1
                if self.beats[house] == 0:
                    for other in self.near.get(house, []):
                        self.lying[(house, other)] += 1

    def may_start(self, houses):
        """Those of a list of houses that have no work in hand and a key at each of their ends."""
        free = [house for house in houses if self.beats[house] == 0]
        return able_among(self.near, self.lying, free)

    def begin(self, houses):
        """Let houses start that may; none of them takes a key that another one needs."""
        for house in houses:
            self.beats[house] = self.times[house]
            for other in self.near.get(house, []):
                self.lying[(other, house)] -= 1

    def state(self):
        """All that tells how it goes on, as a tuple."""
        return tuple(list(self.lying.values()) + self.beats)
