"""The wire, told plainly: here each letter carries the number itself, so that nothing has to be read of it."""

import random

from tests import plain


class PlainWire:
    """What houses and lines hold behind some events."""

    def __init__(self, net, standing):
        self.net, self.meant_at_first, self.table = net, standing, plain.key_table(net, standing)
        self.many = {(one, other): road[2] for road in net[1] for one, other in (road[:2], road[1::-1])}
        self.works, self.resting = [0] * net[0], []
        self.heard = {pair: None for pair in self.table}
        self.lines = {pair: [] for pair in self.table}

    def belief(self, u, v):
        return None if self.heard[u, v] is None else self.table[u, v] + self.heard[u, v] - self.works[v]

    def believing(self):
        return [v for v in range(self.net[0]) if v not in self.resting
                and all((self.belief(u, v) or 0) >= 1 for u in self.asks(v))]

    def asks(self, v):
        return plain.near(self.net, v)

    def meant(self):
        return [self.table[low, high] + self.works[low] - self.works[high] for low, high, _ in self.net[1]]

    def possible(self):
        """All events that are possible now."""
        found = [("work", v) for v in self.believing()] + [("fall", v) for v in range(self.net[0])]
        found += [("rest", v) for v in range(self.net[0]) if v not in self.resting]
        for (u, v), line in self.lines.items():
            found += [("send", u, v)] + [("bring", u, v)] * bool(line)
            found += [(word, u, v, place) for word in ("lose", "double") for place in range(len(line))]
        return found

    def takes(self, value):
        """Whether a value is an event that is possible now: no Booleans are numbers, and no lists tuples."""
        return (type(value) is tuple and value != () and type(value[0]) is str
                and all(type(item) is int for item in value[1:]) and value in self.possible())

    def do(self, event):
        word, house = event[:2]
        if word == "work":
            self.works[house] += 1
        elif word == "rest":
            self.resting = sorted(self.resting + [house])
        elif word == "fall":
            self.heard.update({(u, house): None for u in plain.near(self.net, house)})
        elif word == "send":
            self.lines[event[1:]].append(self.works[house])
        elif word == "bring":
            self.heard[event[1:]] = self.lines[event[1:]].pop(0)
        elif word == "lose":
            del self.lines[event[1:3]][event[3]]
        else:
            line = self.lines[event[1:3]]
            line.insert(event[3], line[event[3]])

    def flush(self):
        """Send on each line, and bring all that is on it; returns these events."""
        events = []
        for u, v in sorted(self.lines):
            events.append(("send", u, v))
            self.do(events[-1])
            while self.lines[u, v]:
                events.append(("bring", u, v))
                self.do(events[-1])
        return events

    def letters(self):
        """The letters on all lines, as the rests that they are."""
        return [[number % (self.many[pair] + 1) for number in self.lines[pair]] for pair in sorted(self.lines)]

    def state(self):
        return (self.works, self.resting, [self.heard[pair] for pair in sorted(self.heard)], self.letters())


class QuietWire(PlainWire):
    """The same with letters on some lines alone, and with the rests themselves on them.

    Here houses may work without a key, and then what is read may not be what was sent.
    """

    def __init__(self, net, standing, asked):
        super().__init__(net, standing)
        self.asked = asked

    def asks(self, v):
        return [u for u, hearer in self.asked if hearer == v]

    def possible(self):
        return [event for event in super().possible()
                if event[0] in ("work", "fall", "rest") or event[1:3] in self.asked]

    def do(self, event):
        super().do(event)
        if event[0] == "send":
            line = self.lines[event[1:]]
            line[-1] %= self.many[event[1:]] + 1
        elif event[0] == "bring":
            pair = event[1:]
            self.heard[pair] = self.read(pair, self.works[pair[1]], self.heard[pair])

    def read(self, pair, own, letter):
        """The one number that keeps all keys of the road on it, and has this rest."""
        many = self.many[pair]
        return [number for number in range(own - self.table[pair], own - self.table[pair] + many + 1)
                if number % (many + 1) == letter][0]

    def letters(self):
        return [self.lines[pair] for pair in sorted(self.lines)]


def wire_behind(net, standing, events):
    """The wire behind events that are possible."""
    wire = PlainWire(net, standing)
    for event in events:
        wire.do(event)
    return wire


def goes_through(wire, value):
    """Whether a value is a list of events, each possible in its turn; they are done as far as they are."""
    if type(value) is not list:
        return False
    for event in value:
        if not wire.takes(event):
            return False
        wire.do(event)
    return True


def is_script(net, standing, value):
    """Whether a value is a script."""
    return goes_through(PlainWire(net, standing), value)


WORDS = ("work", "send", "bring", "lose", "double", "fall", "rest")


def random_events(chance, wire, many, words=WORDS):
    """At most so many events with these words, each as likely as the others, but works and letters more."""
    events = []
    for _ in range(many):
        word = chance.choice([word for word in words if word in ("work", "send", "bring")] * 4 + list(words))
        choice = [event for event in wire.possible() if event[0] == word]
        if choice:
            events.append(chance.choice(choice))
            wire.do(events[-1])
    return events


def random_script(chance, net, standing, many, words=WORDS):
    """A script of at most so many events."""
    return random_events(chance, PlainWire(net, standing), many, words)


def some_scripts(many, seed, words=None, length=60):
    """Nets of all kinds, standings, and scripts of theirs."""
    chance = random.Random(seed)
    found = []
    for net, standing in plain.some_cases(many, seed):
        found.append((net, standing))
    for _ in range(many // 3):
        found.append(plain.random_case(chance, chance.choice((3, 4, 5)), 4, 0.6))
    more = {} if words is None else {"words": words}
    return [(net, standing, random_script(chance, net, standing, chance.randint(0, length), **more))
            for net, standing in found]
