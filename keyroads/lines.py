"""Lines: nets and standings as texts."""

from keyroads.checks import check_standing
from keyroads.errors import InvalidLine
from keyroads.figures import numbers_in
from keyroads.kinds import fits_net, is_count


def line_of(net, standing):
    """The line of a net and a standing."""
    check_standing(net, standing)
    rows = [f" {low}-{high} {many - at_high}/{at_high}" for (low, high, many), at_high in zip(net[1], standing)]
    return f"{net[0]}:" + ",".join(rows)


def of_line(line):
    """The net and the standing that have a line."""
    if not isinstance(line, str):
        raise InvalidLine(line)
    head, mark, tail = line.partition(":")
    houses = numbers_in([head])[0]
    told = [road_in_row(row) for row in tail.split(",")] if tail else []
    if mark != ":" or None in told:
        raise InvalidLine(line)
    net = (houses, [road for road, _ in told])
    if not fits_net(net):
        raise InvalidLine(line)
    return (net, [at_high for _, at_high in told])


def road_in_row(row):
    """The road that a part of a line tells, and how many keys lie at its high house's end; or None."""
    words = row.split(" ")
    if len(words) != 3 or words[0] != "":
        return None
    houses = numbers_in(words[1].split("-"))
    keys = numbers_in(words[2].split("/"))
    if len(houses) != 2 or len(keys) != 2 or not all([is_count(number) for number in houses + keys]):
        return None
    return ((houses[0], houses[1], keys[0] + keys[1]), keys[1])
