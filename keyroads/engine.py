"""Whole runs over the wire: rounds of letters and works, until all is quiet."""

from keyroads.checks import check_count, check_resting, check_standing
from keyroads.ends import counts_past
from keyroads.errors import InvalidHouses, InvalidRun
from keyroads.kinds import fits_directions
from keyroads.lengths import by_house
from keyroads.letters import told_script, whole_wire
from keyroads.roads import able_among, all_directions, awake_houses, hand_over, keys_ahead, near_of, shifted
from keyroads.wire import counts_left, wire_behind
from keyroads.works import is_run


def script_for(net, standing, run):
    """The script whose houses work just in the order of a run, and hear of all roads ahead of each work."""
    if not is_run(net, standing, run):
        raise InvalidRun(run)
    return told_script(all_directions(net), run)


def go_round(wire, pairs):
    """Go on by a round with letters on these lines; returns its events."""
    events = wire.flush(pairs)
    works = [("work", house) for house in wire.trusting()]
    for event in works:
        wire.happen(event)
    return events + works


def round_behind(net, standing, events):
    """The list of the events of a round behind a script."""
    wire = wire_behind(net, standing, events)
    return go_round(wire, wire.pairs)


def with_rounds(net, standing, events, many):
    """The script with so many rounds behind it."""
    wire = wire_behind(net, standing, events)
    check_count(many)
    script = list(events)
    for _ in range(many):
        script.extend(go_round(wire, wire.pairs))
    return script


def is_silent(wire):
    """Whether no letter is on the way, all know their neighbours' works, and nobody believes that it can work."""
    if any([len(line) > 0 for line in wire.lines.values()]) or wire.trusting():
        return False
    return all([number == wire.works[pair[0]] for pair, number in wire.heard.items()])


def is_quiet(net, standing, events):
    """Whether a script is quiet."""
    return is_silent(wire_behind(net, standing, events))


def beats_of_work(net, standing, resting):
    """In how many beats some house works, where none works without end."""
    near = near_of(net)
    ahead = keys_ahead(net, standing)
    awake = awake_houses(net, resting)
    beats = 0
    ready = able_among(near, ahead, awake)
    while ready:
        for house in ready:
            hand_over(near, ahead, house)
        beats += 1
        ready = able_among(near, ahead, awake)
    return beats


def rounds_to_quiet(net, standing, events):
    """The least number of rounds behind which a script is quiet, None if there is none."""
    wire = wire_behind(net, standing, events)
    if len(counts_left(net, standing, wire)) < net[0]:
        return None
    if is_silent(wire):
        return 0
    return beats_of_work(net, shifted(net, standing, wire.works), sorted(wire.rested)) + 1


def check_dead(net, dead):
    """InvalidHouses unless it is a list of directions, in order, each once."""
    if not fits_directions(net, dead):
        raise InvalidHouses(dead)


def goes_without(net, standing, events, dead):
    """Whether a script has no bringing on dead lines."""
    wire_behind(net, standing, events)
    check_dead(net, dead)
    return not any([event[0] == "bring" and event[1:] in dead for event in events])


def counts_without(net, standing, resting, dead):
    """How often each house works if some rest and dead lines never bring."""
    check_standing(net, standing)
    check_resting(net, resting)
    check_dead(net, dead)
    held = sorted(set(resting + [pair[1] for pair in dead]))
    return by_house(net, counts_past(keys_ahead(net, standing), held))


def rounds_without(net, standing, resting, dead, many):
    """The script of so many rounds from the beginning on, with some houses resting, without letters on dead lines."""
    check_standing(net, standing)
    check_resting(net, resting)
    check_dead(net, dead)
    check_count(many)
    wire = whole_wire(net, standing)
    script = [("rest", house) for house in resting]
    for event in script:
        wire.happen(event)
    pairs = [pair for pair in wire.pairs if pair not in dead]
    for _ in range(many):
        script.extend(go_round(wire, pairs))
    return script
