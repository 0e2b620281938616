"""Marks: how few unlike letters are enough to tell a neighbour's number, and why fewer are not."""

from keyroads.checks import check_count, check_road
from keyroads.circles import houses_on_rings
from keyroads.errors import InvalidEvent, InvalidMarks, InvalidNumber
from keyroads.kinds import is_count, is_count_list, is_whole
from keyroads.lengths import lengths_from
from keyroads.leads import most_keys
from keyroads.letters import read_of
from keyroads.lists import run_for
from keyroads.needed import least_by, most_by
from keyroads.roads import keys_ahead
from keyroads.single import line_behind
from keyroads.works import is_run


def check_marks(marks):
    """InvalidMarks unless it is a whole number of at least 1."""
    if not is_whole(marks) or marks < 1:
        raise InvalidMarks(marks)


def check_told_by(net, standing, u, v, marks):
    """The errors of a net, a standing, of two neighbours, the second of which hears of the first, and of marks."""
    check_road(net, standing, u, v)
    check_marks(marks)


def as_often_as_can(ahead, house, number):
    """A number, or how often a house can work in all, if that is less."""
    most = lengths_from(ahead, houses_on_rings(ahead)).get(house)
    return number if most is None else min(number, most)


def run_with(net, standing, known):
    """A run of the least works in which each of some houses works at least so often."""
    ahead = keys_ahead(net, standing)
    return run_for(net, standing, [least_by(ahead, house, known) for house in range(net[0])])


def widest(ahead, u, v):
    """A number of v at which u's greatest number exceeds its least one, which is 0, the most; and how much it does."""
    number = as_often_as_can(ahead, v, lengths_from(ahead, [u])[v])
    return (number, most_by(ahead, u, [(v, number)]))


def spread(net, standing, u, v):
    """By how much the greatest number of u exceeds the least one at most, while v has a number."""
    check_road(net, standing, u, v)
    return widest(keys_ahead(net, standing), u, v)[1]


def read_by(number, first, marks, letter):
    """What a house with this number, and so many keys at first, reads of a letter by marks."""
    check_count(number)
    check_count(first)
    check_marks(marks)
    if not is_count(letter) or letter >= marks:
        raise InvalidNumber(letter)
    return read_of(first, marks, number, letter)


def enough_marks(net, standing, u, v):
    """The least number of marks by which v always reads u's number, without stuck rings."""
    return most_keys(net, standing, u, v) + 1


def alike_lines(net, standing, u, v, marks):
    """Two lines at whose ends v hears the same of unlike numbers, None if there are none."""
    check_told_by(net, standing, u, v, marks)
    ahead = keys_ahead(net, standing)
    # As far as v's first keys go, u's first letter is enough for its works, and may come late, too.
    number = as_often_as_can(ahead, v, ahead[(u, v)])
    if marks > most_by(ahead, u, [(v, number)]):
        return None
    run = run_with(net, standing, [(v, number), (u, marks)])
    return (line_with_late_letter(run, u, 0), line_with_late_letter(run, u, marks))


def line_with_late_letter(run, u, number):
    """The line in which v works by u's first letter, falls at the end, and hears what u sent with this number."""
    at = [run[:place].count(u) for place in range(len(run) + 1)].index(number)
    return ["send", "bring"] + run[:at] + ["send"] + run[at:] + ["fall", "bring"]


def are_alike_lines(net, standing, u, v, marks, value):
    """Whether a value is a tuple of two such lines, that with the lesser number first."""
    check_told_by(net, standing, u, v, marks)
    if not isinstance(value, tuple) or len(value) != 2:
        return False
    enough = enough_marks(net, standing, u, v)
    lines = [line_behind(net, standing, u, v, enough, events) for events in value]
    if not all([line is not None for line in lines]) or not all([events[-2:] == ["fall", "bring"] for events in value]):
        return False
    one, other = lines
    return one.works[v] == other.works[v] and one.brought[-1][1] + marks == other.brought[-1][1]


def alike_runs(net, standing, u, v, marks):
    """Two runs in which v works as often, and u so many times more in the second one; None if there are none."""
    check_told_by(net, standing, u, v, marks)
    number, most = widest(keys_ahead(net, standing), u, v)
    if marks > most:
        return None
    return (run_with(net, standing, [(v, number)]), run_with(net, standing, [(v, number), (u, marks)]))


def are_alike_runs(net, standing, u, v, marks, value):
    """Whether a value is a tuple of two such runs, that with the lesser number of u first."""
    check_told_by(net, standing, u, v, marks)
    if not isinstance(value, tuple) or len(value) != 2 or not all([is_run(net, standing, run) for run in value]):
        return False
    one, other = value
    return one.count(v) == other.count(v) and one.count(u) + marks == other.count(u)


def late_letter(net, standing, u, v, marks):
    """A run, and how much of it was done when a letter was sent of which v reads too much; None if there is none."""
    check_told_by(net, standing, u, v, marks)
    ahead = keys_ahead(net, standing)
    number = ahead[(u, v)] + 1
    if as_often_as_can(ahead, v, number) < number or marks < number + 1 - lengths_from(ahead, [u])[v]:
        return None
    return (run_with(net, standing, [(v, number)]), 0)


def is_late_letter(net, standing, u, v, marks, value):
    """Whether a value is such a tuple of a run and of a number of its first works."""
    check_told_by(net, standing, u, v, marks)
    if not isinstance(value, tuple) or len(value) != 2:
        return False
    run, place = value
    if not is_run(net, standing, run) or not is_count(place) or place > len(run):
        return False
    letter = run[:place].count(u) % marks
    first = keys_ahead(net, standing)[(u, v)]
    return read_of(first, marks, run.count(v), letter) > run.count(u)


def read_whole(number, first, letters):
    """What a house reads of whole numbers that came in any order."""
    check_count(number)
    check_count(first)
    if not is_count_list(letters):
        raise InvalidNumber(letters)
    return max([number - first] + letters)


def is_line(net, standing, u, v, marks, value):
    """Whether a value is a list of events on the line, each of which is possible when its turn comes."""
    check_told_by(net, standing, u, v, marks)
    return line_behind(net, standing, u, v, marks, value) is not None


def checked_line(net, standing, u, v, marks, events):
    """The line behind these events; the errors of all arguments."""
    check_told_by(net, standing, u, v, marks)
    line = line_behind(net, standing, u, v, marks, events)
    if line is None:
        raise InvalidEvent(events)
    return line


def line_read(net, standing, u, v, marks, events):
    """What v read of each letter that was brought, and what u's number was when it was sent."""
    return checked_line(net, standing, u, v, marks, events).brought


def wants(net, standing, u, v, marks, events):
    """Whether v, behind the events, has read of a key at its end."""
    return checked_line(net, standing, u, v, marks, events).has_read_of_key()
