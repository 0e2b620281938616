"""Histories of changes: what they lead to, when a ring is stuck first, and how they are taken back."""

from keyroads.changes import house_in, house_out, key_in, key_out, road_in, road_out
from keyroads.checks import check_standing
from keyroads.circles import rings_in, waiting_heads
from keyroads.errors import InvalidScript, RoadError
from keyroads.roads import keys_ahead
from keyroads.works import work


def changed(net, standing, change):
    """The net and the standing behind a change, None if a value is no change that can be done."""
    if not isinstance(change, tuple) or not change:
        return None
    try:
        return changed_by(net, standing, change[0], change[1:])
    except RoadError:
        return None


def changed_by(net, standing, word, told):
    """What a change does; None if no change has this word and so many things behind it."""
    if len(told) == 1:
        return changed_by_one(net, standing, word, told[0])
    if len(told) == 2:
        return changed_by_two(net, standing, word, told[0], told[1])
    if len(told) == 4 and word == "in":
        return road_in(net, standing, told[0], told[1], told[2], told[3])
    return None


def changed_by_one(net, standing, word, told):
    """What a change does that has one thing behind its word."""
    if word == "house":
        return house_in(net, standing, told)
    if word == "gone":
        return house_out(net, standing, told)
    if word == "work":
        return (net, work(net, standing, told))
    return None


def changed_by_two(net, standing, word, u, v):
    """What a change does that has two houses behind its word."""
    if word == "out":
        return road_out(net, standing, u, v)
    if word == "more":
        return key_in(net, standing, u, v)
    if word == "less":
        return key_out(net, standing, u, v)
    return None


def stages_of(net, standing, changes):
    """The nets and standings ahead of each change of a list and behind the last one, as far as they can be done."""
    stages = [((net[0], list(net[1])), list(standing))]
    for change in changes:
        later = changed(stages[-1][0], stages[-1][1], change)
        if later is None:
            return stages
        stages.append(later)
    return stages


def checked_stages(net, standing, history):
    """The same for a history; the errors of all arguments."""
    check_standing(net, standing)
    if not isinstance(history, list):
        raise InvalidScript(history)
    stages = stages_of(net, standing, history)
    if len(stages) <= len(history):
        raise InvalidScript(history[len(stages) - 1])
    return stages


def is_history(net, standing, value):
    """Whether a value is a list of changes, each of which can be done behind those ahead of it."""
    check_standing(net, standing)
    return isinstance(value, list) and len(stages_of(net, standing, value)) > len(value)


def behind(net, standing, history):
    """The net and the standing behind a history."""
    return checked_stages(net, standing, history)[-1]


def first_stuck(net, standing, history):
    """The first change behind which a ring is stuck, or -1 for the beginning, and the first such ring; or None."""
    for at, (later, keys) in enumerate(checked_stages(net, standing, history)):
        found = rings_in(waiting_heads(keys_ahead(later, keys)), 1)
        if found:
            return (at - 1, found[0])
    return None


def taken_back(net, standing, history):
    """A list of changes without works that leads back, None if there is a work or a house that is gone."""
    stages = checked_stages(net, standing, history)
    if any([change[0] in ("work", "gone") for change in history]):
        return None
    back = [opposite(stage[0], stage[1], change) for stage, change in zip(stages, history)]
    return back[::-1]


def opposite(net, standing, change):
    """The change that leads back from behind a change, which is done in a net and a standing."""
    word = change[0]
    if word == "house":
        return ("gone", net[0])
    u, v = change[1:3]
    if word == "in":
        return ("out", u, v)
    if word == "more":
        return ("less", u, v)
    if word == "less":
        return ("more", u, v)
    ahead = keys_ahead(net, standing)
    return ("in", u, v, ahead[(v, u)], ahead[(u, v)])
