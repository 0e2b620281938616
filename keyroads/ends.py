"""How often houses still work past those that rest, for arguments that are known to be right."""

from keyroads.circles import houses_on_rings
from keyroads.lengths import lengths_from
from keyroads.roads import able_among, awake_houses, hand_over, keys_ahead, near_of


def ends_of(ahead, resting):
    """The ascending list of the houses that rest and of those of stuck rings."""
    return sorted(set(resting + houses_on_rings(ahead)))


def counts_past(ahead, resting):
    """A dict of how often each house works in all; those that work without end are not in it."""
    return lengths_from(ahead, ends_of(ahead, resting))


def run_by_picks(net, standing, resting, picks):
    """A run past the resting houses that cannot be gone on, where no house works without end."""
    ahead = keys_ahead(net, standing)
    near = near_of(net)
    awake = awake_houses(net, resting)
    run = []
    ready = able_among(near, ahead, awake)
    while ready:
        house = picked(ready, picks, len(run))
        hand_over(near, ahead, house)
        run.append(house)
        ready = able_among(near, ahead, awake)
    return run


def picked(ready, picks, turn):
    """Who of those that are ready works at a turn, by picks, behind whose end it is the least one."""
    pick = picks[turn] if turn < len(picks) else 0
    return ready[pick % len(ready)]
