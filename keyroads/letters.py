"""Letters on lines, and what houses hold of one another's works.

The lines and all that is held of a neighbour's works go by directions (u, v): from
u to v, and held by v of u.
"""

from keyroads.kinds import fits_house, is_count
from keyroads.roads import all_directions, heads_of, keys_ahead, near_of


def marks_of(net):
    """For each direction, by how many marks letters are told on it: one more than the road has keys."""
    marks = {}
    for low, high, many in net[1]:
        marks[(low, high)] = many + 1
        marks[(high, low)] = many + 1
    return marks


def tellers_of(asked):
    """For each house that these directions lead to, the list of those they come from, in their order."""
    return heads_of([(other, one) for one, other in asked])


def read_of(first, marks, own, letter):
    """The number that a letter tells a house with so many works of its own and so many keys at first."""
    least = own - first
    return least + (letter - least) % marks


def pass_on(line, event, letter):
    """Do to a line what an event does, `letter` being what is sent now; returns the letter that comes, or None."""
    if event[0] == "bring":
        return line.pop(0)
    if event[0] == "send":
        line.append(letter)
    elif event[0] == "lose":
        line.pop(event[3])
    else:
        line.insert(event[3] + 1, line[event[3]])
    return None


class Wire:
    """What houses and lines hold behind the events up to now.

    Letters go on the lines of the asked directions alone, and by these alone houses
    tell whether they can work.
    """

    def __init__(self, net, standing, asked):
        self.houses = net[0]
        self.near = near_of(net)
        self.pairs = all_directions(net)
        self.asked = {pair: True for pair in asked}
        # For each house, those whose letters tell it whether it can work.
        self.tellers = tellers_of(asked)
        self.marks = marks_of(net)
        self.first = keys_ahead(net, standing)
        self.works = [0] * net[0]
        self.rested = {}
        self.heard = {pair: None for pair in self.pairs}
        self.lines = {pair: [] for pair in self.pairs}

    def belief(self, pair):
        """How many keys the second house believes at its end, None if it heard nothing."""
        if self.heard[pair] is None:
            return None
        return self.first[pair] + self.heard[pair] - self.works[pair[1]]

    def trusts(self, house):
        """Whether a house does not rest and believes a key on each road that it asks about."""
        if house in self.rested:
            return False
        beliefs = [self.belief((other, house)) for other in self.tellers.get(house, [])]
        return all([keys is not None and keys > 0 for keys in beliefs])

    def trusting(self):
        """The ascending list of these houses."""
        return [house for house in range(self.houses) if self.trusts(house)]

    def happen(self, event):
        """Go on behind an event that is possible now."""
        word, house = event[0], event[1]
        if word == "work":
            self.works[house] += 1
        elif word == "rest":
            self.rested[house] = True
        elif word == "fall":
            for other in self.near.get(house, []):
                self.heard[(other, house)] = None
        else:
            pair = event[1:3]
            letter = pass_on(self.lines[pair], event, self.works[house] % self.marks[pair])
            if letter is not None:
                self.heard[pair] = read_of(self.first[pair], self.marks[pair], self.works[pair[1]], letter)

    def flush(self, pairs):
        """Go on by one sending on each of these lines, with all bringings behind it; returns these events."""
        events = []
        for one, other in pairs:
            events.append(("send", one, other))
            events.extend([("bring", one, other)] * (len(self.lines[(one, other)]) + 1))
        for event in events:
            self.happen(event)
        return events

    def state(self):
        """All that is held, as a state."""
        heard = [self.heard[pair] for pair in self.pairs]
        return (list(self.works), sorted(self.rested), heard, [list(self.lines[pair]) for pair in self.pairs])

    def take_up(self, state):
        """Go on from a state."""
        works, resting, heard, lines = state
        self.works = list(works)
        self.rested = {house: True for house in resting}
        self.heard = {pair: number for pair, number in zip(self.pairs, heard)}
        self.lines = {pair: list(line) for pair, line in zip(self.pairs, lines)}


def whole_wire(net, standing):
    """The wire at the beginning, with letters on all lines."""
    return Wire(net, standing, all_directions(net))


def is_possible(net, wire, value):
    """Whether a value is an event that is possible now."""
    if not isinstance(value, tuple) or len(value) < 2 or not isinstance(value[0], str):
        return False
    if value[0] not in ("work", "rest", "fall"):
        return is_possible_on(wire, value)
    if len(value) != 2 or not fits_house(net, value[1]):
        return False
    if value[0] == "work":
        return wire.trusts(value[1])
    return value[0] == "fall" or value[1] not in wire.rested


def is_possible_on(wire, value):
    """Whether a tuple that begins with a string is an event on a line that is possible now."""
    if not all([is_count(number) for number in value[1:]]) or value[1:3] not in wire.asked:
        return False
    many = len(wire.lines[value[1:3]])
    if value[0] == "send":
        return len(value) == 3
    if value[0] == "bring":
        return len(value) == 3 and many > 0
    return value[0] in ("lose", "double") and len(value) == 4 and value[3] < many


def goes_on(net, wire, value):
    """Whether a value is a list of events, each possible in its turn; these happen, as far as they can."""
    if not isinstance(value, list):
        return False
    for event in value:
        if not is_possible(net, wire, event):
            return False
        wire.happen(event)
    return True


def told_script(asked, run):
    """The script in which each house hears of all that it asks ahead of each of its works."""
    tellers = tellers_of(asked)
    events = []
    for house in run:
        for other in tellers.get(house, []):
            events.append(("send", other, house))
            events.append(("bring", other, house))
        events.append(("work", house))
    return events
