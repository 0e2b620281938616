"""One line by marks, told plainly: all numbers are kept, and what is read is found by trying."""

import itertools

from tests import plain

TOLD = ("send", "bring", "lose", "double", "fall")


class PlainLine:
    """What lies on the line from u to v behind some events, and what v read."""

    def __init__(self, net, standing, u, v, marks):
        self.net, self.u, self.v, self.marks = net, u, v, marks
        self.standing, self.first = standing, plain.key_table(net, standing)[u, v]
        self.works, self.line, self.read, self.told = [0] * net[0], [], None, []

    def wants(self):
        return self.read is not None and self.read - self.works[self.v] + self.first >= 1

    def possible(self):
        """All events that are possible now."""
        found = [house for house in range(self.net[0]) if plain.can_work(self.net, self.standing, house)
                 and (house != self.v or self.wants())]
        return found + ["send", "fall"] + ["bring", "lose", "double"] * bool(self.line)

    def do(self, event):
        if event == "send":
            self.line.append(self.works[self.u])
        elif event == "bring":
            number = self.line.pop(0)
            least = self.works[self.v] - self.first
            self.read = next(y for y in itertools.count(least) if y % self.marks == number % self.marks)
            self.told.append((self.read, number))
        elif event == "lose":
            del self.line[0]
        elif event == "double":
            self.line = self.line[:1] + self.line
        elif event == "fall":
            self.read = None
        else:
            self.standing = plain.work(self.net, self.standing, event)
            self.works[event] += 1


def line_behind(net, standing, u, v, marks, value):
    """The line behind a list of events, None unless each of them is possible in its turn."""
    line = PlainLine(net, standing, u, v, marks)
    if type(value) is not list:
        return None
    for event in value:
        if type(event) not in (int, str) or event not in line.possible():
            return None
        line.do(event)
    return line


def random_line(chance, net, standing, u, v, marks, many):
    """Events on the line, so many."""
    line, events = PlainLine(net, standing, u, v, marks), []
    for _ in range(many):
        choice = line.possible()
        events.append(chance.choice([event for event in choice if event not in ("fall", "lose")] * 3 + choice))
        line.do(events[-1])
    return events
