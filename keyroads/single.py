"""One line, on which letters by some marks tell a house the number of its neighbour."""

from keyroads.kinds import fits_house
from keyroads.letters import read_of
from keyroads.roads import hand_over, has_keys, keys_ahead, near_of


class SingleLine:
    """What lies on the line from u to v, and what v read, behind the events up to now."""

    def __init__(self, net, standing, u, v, marks):
        self.near = near_of(net)
        self.lying = keys_ahead(net, standing)
        self.first = self.lying[(u, v)]
        self.teller = u
        self.hearer = v
        self.marks = marks
        self.works = [0] * net[0]
        # The numbers that u had when it sent the letters, the eldest one first.
        self.sent = []
        # What v read last, None if nothing or if it forgot it.
        self.last_read = None
        self.brought = []

    def has_read_of_key(self):
        """Whether what v read last tells of a key at its end."""
        return self.last_read is not None and self.last_read - self.works[self.hearer] + self.first >= 1

    def takes(self, net, value):
        """Whether a value is an event that is possible now."""
        if isinstance(value, str):
            return value in ("send", "fall") or (value in ("bring", "lose", "double") and len(self.sent) > 0)
        if not fits_house(net, value) or not has_keys(self.near, self.lying, value):
            return False
        return value != self.hearer or self.has_read_of_key()

    def happen(self, event):
        """Go on behind an event that is possible now."""
        if event == "send":
            self.sent.append(self.works[self.teller])
        elif event == "bring":
            number = self.sent.pop(0)
            self.last_read = read_of(self.first, self.marks, self.works[self.hearer], number % self.marks)
            self.brought.append((self.last_read, number))
        elif event == "lose":
            self.sent.pop(0)
        elif event == "double":
            self.sent.insert(1, self.sent[0])
        elif event == "fall":
            self.last_read = None
        else:
            self.works[event] += 1
            hand_over(self.near, self.lying, event)


def line_behind(net, standing, u, v, marks, value):
    """The line behind the events of a list, None unless these are possible in their turns."""
    if not isinstance(value, list):
        return None
    line = SingleLine(net, standing, u, v, marks)
    for event in value:
        if not line.takes(net, event):
            return None
        line.happen(event)
    return line
