"""Silence: scripts in which letters go on some lines alone, and which lines are enough for all houses."""

from keyroads.checks import check_free
from keyroads.errors import InvalidRun, InvalidScript, InvalidWay
from keyroads.kinds import fits_directions
from keyroads.letters import Wire, goes_on, told_script
from keyroads.lists import run_for
from keyroads.needed import is_needed, least_by
from keyroads.roads import keys_ahead
from keyroads.works import is_run


def check_asked(net, standing, asked):
    """The errors of a free standing and of a list of directions."""
    check_free(net, standing)
    if not fits_directions(net, asked):
        raise InvalidWay(asked)


def is_quiet_script(net, standing, asked, value):
    """Whether a value is a script with letters on the asked lines alone."""
    check_asked(net, standing, asked)
    return goes_on(net, Wire(net, standing, asked), value)


def quiet_state(net, standing, asked, events):
    """The state behind such a script."""
    check_asked(net, standing, asked)
    wire = Wire(net, standing, asked)
    if not goes_on(net, wire, events):
        raise InvalidScript(events)
    return wire.state()


def needed_but(ahead, asked):
    """The list, in order, of the needed directions that are not asked."""
    return [pair for pair in sorted(ahead) if pair not in asked and is_needed(ahead, pair)]


def are_enough(net, standing, asked):
    """Whether each needed direction is asked."""
    check_asked(net, standing, asked)
    return not needed_but(keys_ahead(net, standing), asked)


def quiet_script_of(net, standing, asked, run):
    """A script with letters on the asked lines alone whose houses work just in the order of a run."""
    if not are_enough(net, standing, asked):
        raise InvalidWay(asked)
    if not is_run(net, standing, run):
        raise InvalidRun(run)
    return told_script(asked, run)


def is_unsafe(net, standing, asked, value):
    """Whether a value is such a script whose last event, and no work ahead of it, lacks a key on some road."""
    check_asked(net, standing, asked)
    wire = Wire(net, standing, asked)
    if not isinstance(value, list) or not value or not goes_on(net, wire, value[:-1]):
        return False
    if not goes_on(net, wire, value[-1:]) or value[-1][0] != "work":
        return False
    works = [event[1] for event in value if event[0] == "work"]
    return is_run(net, standing, works[:-1]) and not is_run(net, standing, works)


def unsafe_script(net, standing, asked):
    """Such a script, None if the asked directions are enough."""
    check_asked(net, standing, asked)
    ahead = keys_ahead(net, standing)
    lacking = needed_but(ahead, asked)
    if not lacking:
        return None
    silent, house = lacking[0]
    # Without a work of the silent one the house can work as often as keys lie at its end
    # of their road, and all that it hears of can go on so far that it finds one more of
    # their keys: no way but the road itself holds them back so soon.
    most = ahead[(silent, house)]
    told = [(house, most)] + [(one, most + 1 - ahead[(one, other)]) for one, other in asked if other == house]
    works = [least_by(ahead, other, told) for other in range(net[0])]
    return told_script(asked, run_for(net, standing, works) + [house])
