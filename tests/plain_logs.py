"""Logs, snapshots and lines, written and read plainly."""

import re

from tests import plain, plain_wire


def plain_log(events):
    return "".join(" ".join([str(at)] + [str(item) for item in event]) + "\n" for at, event in enumerate(events))


def plain_read(net, standing, text):
    """The longest script whose log a text begins with: told by trying all events that are possible."""
    wire, events = plain_wire.PlainWire(net, standing), []
    while True:
        log = plain_log(events)
        if text == log:
            return events, len(text)
        fitting = [event for event in wire.possible() if text.startswith(plain_log(events + [event]))]
        if not fitting:
            return events, len(log)
        events.append(fitting[0])
        wire.do(fitting[0])


def plain_snapshot(net, state):
    works, resting, heard, lines = state
    rows = [["works"] + works, ["resting"] + resting]
    for (u, v), number, letters in zip(sorted(plain.key_table(net, [0] * len(net[1]))), heard, lines):
        rows.append(["line", u, v, "-" if number is None else number] + letters)
    return "".join(" ".join(str(item) for item in row) + "\n" for row in rows)


def plain_state(net, text):
    """The state of a snapshot, or the number of its first wrong line."""
    def number(word, most=None):
        if word not in [str(int(word))] if word.isascii() and word.isdigit() else True:
            raise ValueError
        if most is not None and int(word) > most:
            raise ValueError
        return int(word)

    rows, rest = text.split("\n")[:-1], text.split("\n")[-1]
    many = {pair: road[2] for road in net[1] for pair in (road[:2], road[1::-1])}
    works, resting, heard, lines = None, None, [], []
    for at in range(2 + len(many)):
        try:
            words = rows[at].split(" ")
            if at == 0:
                works = [number(word) for word in words[1:]]
                assert words[0] == "works" and len(works) == net[0]
            elif at == 1:
                resting = [number(word, net[0] - 1) for word in words[1:]]
                assert words[0] == "resting" and resting == sorted(set(resting))
            else:
                pair = sorted(many)[at - 2]
                assert words[:3] == ["line", str(pair[0]), str(pair[1])]
                heard.append(None if words[3] == "-" else number(words[3]))
                lines.append([number(word, many[pair]) for word in words[4:]])
        except (ValueError, IndexError, AssertionError):
            return at
    if len(rows) > 2 + len(many) or rest:
        return 2 + len(many)
    return works, resting, heard, lines


def plain_line(net, standing):
    roads = [" {}-{} {}/{}".format(low, high, many - keys, keys) for (low, high, many), keys in zip(net[1], standing)]
    return str(net[0]) + ":" + ",".join(roads)


def plain_of(line):
    """The net and the standing that have a line, None if there are none: told by writing it anew."""
    if type(line) is not str:
        return None
    numbers = [int(figures[:900]) for figures in re.findall("[0-9]+", line)]
    if len(numbers) % 4 != 1:
        return None
    rows = [tuple(numbers[at:at + 4]) for at in range(1, len(numbers), 4)]
    net = (numbers[0], [(low, high, at_low + at_high) for low, high, at_low, at_high in rows])
    pairs = [road[:2] for road in net[1]]
    good = (net[0] >= 1 and pairs == sorted(set(pairs)) and all(low < high < net[0] and many for low, high, many in net[1]))
    standing = [row[3] for row in rows]
    return (net, standing) if good and plain_line(net, standing) == line else None
