"""Logs of scripts, also torn ones, and snapshots of states."""

from keyroads.checks import check_net, check_standing
from keyroads.errors import InvalidLine, InvalidScript
from keyroads.figures import number_in, numbers_in, row_of
from keyroads.kinds import fits_resting, is_counts
from keyroads.letters import goes_on, is_possible, marks_of, whole_wire
from keyroads.roads import all_directions
from keyroads.wire import wire_behind


def check_text(text):
    """InvalidLine unless it is a string."""
    if not isinstance(text, str):
        raise InvalidLine(text)


def text_of(rows):
    """The text of these lines, with a newline behind each."""
    return "".join([row + "\n" for row in rows])


def log_text(events):
    """The log of these events."""
    return text_of([row_of(str(at), event) for at, event in enumerate(events)])


def log_of(net, standing, events):
    """The log of a script."""
    wire_behind(net, standing, events)
    return log_text(events)


def event_in(row, at):
    """What a line of a log tells as its event, whether or not there is such a one; None without its number."""
    words = row.split(" ")
    if words[0] != str(at):
        return None
    return tuple(words[1:2] + numbers_in(words[2:]))


def logged_in(net, standing, text):
    """The longest script whose log a text begins with, and the wire behind it; the errors of all arguments."""
    check_standing(net, standing)
    check_text(text)
    wire = whole_wire(net, standing)
    events = []
    # What stands behind the last newline is no whole line.
    for row in text.split("\n")[:-1]:
        event = event_in(row, len(events))
        if not is_possible(net, wire, event):
            return (events, wire)
        wire.happen(event)
        events.append(event)
    return (events, wire)


def script_of(net, standing, text):
    """The script that has a log."""
    events = logged_in(net, standing, text)[0]
    if log_text(events) != text:
        raise InvalidLine(len(events))
    return events


def mended(net, standing, text):
    """The longest beginning of a text that is a log."""
    return log_text(logged_in(net, standing, text)[0])


def replayed(net, standing, text):
    """The state behind the script of this beginning."""
    return logged_in(net, standing, text)[1].state()


def snapshot(net, standing, events):
    """The text of the state behind a script."""
    wire = wire_behind(net, standing, events)
    rows = [row_of("works", wire.works), row_of("resting", sorted(wire.rested))]
    for pair in wire.pairs:
        heard = wire.heard[pair]
        rows.append(row_of("line", list(pair) + ["-" if heard is None else heard] + wire.lines[pair]))
    return text_of(rows)


def numbers_behind(word, row):
    """The numbers behind a word in a line of a snapshot, None if it does not begin with this word."""
    words = row.split(" ")
    if words[0] != word:
        return None
    return numbers_in(words[1:])


def line_in(row, pair, marks):
    """What a line of a snapshot tells of a direction: what is heard, and the list of the letters; or None."""
    head = row_of("line", pair) + " "
    if not row.startswith(head):
        return None
    words = row[len(head):].split(" ")
    heard = None if words[0] == "-" else number_in(words[0])
    letters = numbers_in(words[1:])
    if heard is None and words[0] != "-":
        return None
    if not all([letter is not None and letter < marks for letter in letters]):
        return None
    return (heard, letters)


def state_in(net, text):
    """The state of a snapshot; InvalidLine with the first line that is wrong."""
    check_text(text)
    # What stands behind the last newline is one line too many, unless it is nothing.
    rows = text.split("\n")
    pairs = all_directions(net)
    marks = marks_of(net)
    works = numbers_behind("works", row_at(rows, 0))
    if not is_counts(works, net[0]):
        raise InvalidLine(0)
    resting = numbers_behind("resting", row_at(rows, 1))
    if not fits_resting(net, resting):
        raise InvalidLine(1)
    told = []
    for pair in pairs:
        told.append(line_in(row_at(rows, len(told) + 2), pair, marks[pair]))
        if told[-1] is None:
            raise InvalidLine(len(told) + 1)
    if rows[len(told) + 2:] != [""]:
        raise InvalidLine(len(told) + 2)
    return (works, resting, [heard for heard, _ in told], [letters for _, letters in told])


def row_at(rows, at):
    """A whole line of a text, an empty one if it is lacking or not whole."""
    return rows[at] if at < len(rows) - 1 else ""


def state_of_snapshot(net, text):
    """The state that a snapshot tells, whether or not some script leads to it."""
    check_net(net)
    return state_in(net, text)


def resumed(net, standing, text, events):
    """The state that events lead to from that of a snapshot on."""
    check_standing(net, standing)
    wire = whole_wire(net, standing)
    wire.take_up(state_in(net, text))
    if not goes_on(net, wire, events):
        raise InvalidScript(events)
    return wire.state()
