"""The wire: houses that tell one another their works by letters, whatever is lost, doubled, late or forgotten."""

from keyroads.checks import check_count, check_house, check_neighbour, check_picks, check_standing
from keyroads.ends import counts_past, picked
from keyroads.errors import InvalidNumber, InvalidScript
from keyroads.kinds import is_count
from keyroads.lengths import by_house
from keyroads.letters import goes_on, is_possible, marks_of, read_of, whole_wire
from keyroads.roads import keys_ahead, shifted


def wire_behind(net, standing, events):
    """The wire behind a script; the errors of a net, a standing and a script."""
    check_standing(net, standing)
    wire = whole_wire(net, standing)
    if not goes_on(net, wire, events):
        raise InvalidScript(events)
    return wire


def read_letter(net, standing, u, v, own, letter):
    """The number of u's works that v, with so many works of its own, reads of a letter."""
    check_standing(net, standing)
    check_house(net, u)
    check_neighbour(net, u, v)
    check_count(own)
    marks = marks_of(net)[(u, v)]
    if not is_count(letter) or letter >= marks:
        raise InvalidNumber(letter)
    return read_of(keys_ahead(net, standing)[(u, v)], marks, own, letter)


def is_script(net, standing, value):
    """Whether a value is a list of events, each possible when its turn comes."""
    check_standing(net, standing)
    return goes_on(net, whole_wire(net, standing), value)


def state_after(net, standing, events):
    """The state behind a script: works, resting houses, what is heard, and the letters on all lines."""
    return wire_behind(net, standing, events).state()


def is_event(net, standing, events, value):
    """Whether a value is an event that is possible behind a script."""
    return is_possible(net, wire_behind(net, standing, events), value)


def believed(net, standing, events, u, v):
    """How many keys of the road of u v believes at its end, None if it heard nothing."""
    wire = wire_behind(net, standing, events)
    check_house(net, u)
    check_neighbour(net, u, v)
    return wire.belief((u, v))


def believing(net, standing, events):
    """The ascending list of the houses that do not rest and believe a key on each of their roads."""
    return wire_behind(net, standing, events).trusting()


def meant(net, standing, events):
    """The standing that the works behind a script mean."""
    return shifted(net, standing, wire_behind(net, standing, events).works)


def run_of(events):
    """The list of the houses that work in a script."""
    if not isinstance(events, list) or not all([is_told(event) for event in events]):
        raise InvalidScript(events)
    return [event[1] for event in events if event[0] == "work"]


def is_told(value):
    """Whether a value is a tuple that begins with a string, and with a count alone behind it if it is a work."""
    if not isinstance(value, tuple) or not value or not isinstance(value[0], str):
        return False
    return value[0] != "work" or (len(value) == 2 and is_count(value[1]))


def flushed(net, standing, events):
    """The script with one sending on each line behind it, and with as many bringings as there are letters then."""
    wire = wire_behind(net, standing, events)
    return events + wire.flush(wire.pairs)


def counts_left(net, standing, wire):
    """A dict of how often each house still works; those that work without end are not in it."""
    return counts_past(keys_ahead(net, shifted(net, standing, wire.works)), sorted(wire.rested))


def left_counts(net, standing, events):
    """How often each house still works behind a script, None if it works without end."""
    return by_house(net, counts_left(net, standing, wire_behind(net, standing, events)))


def gone_on(net, standing, events, picks):
    """A script gone on, by works and flushings, until nobody believes that it can work; None if it never ends."""
    wire = wire_behind(net, standing, events)
    check_picks(picks)
    if len(counts_left(net, standing, wire)) < net[0]:
        return None
    script = events + wire.flush(wire.pairs)
    turn = 0
    ready = wire.trusting()
    while ready:
        event = ("work", picked(ready, picks, turn))
        wire.happen(event)
        script.append(event)
        script.extend(wire.flush(wire.pairs))
        turn += 1
        ready = wire.trusting()
    return script
