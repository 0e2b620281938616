"""Roads and the keys on them, for arguments that are known to be right.

What lies on the roads is kept as a dict `ahead` that tells k(u, v) for each
direction (u, v). Houses without roads do not occur in these dicts.
"""


def all_directions(net):
    """The list of all directions of a net, in order."""
    pairs = []
    for low, high, _ in net[1]:
        pairs.append((low, high))
        pairs.append((high, low))
    return sorted(pairs)


def heads_of(pairs):
    """For each house that a pair begins with, the list of those it leads to."""
    heads = {}
    for tail, head in pairs:
        heads.setdefault(tail, []).append(head)
    return heads


def near_of(net):
    """For each house with roads, the ascending list of its neighbours."""
    return heads_of(all_directions(net))


def keys_ahead(net, standing):
    """The dict that tells k(u, v) for each direction (u, v)."""
    ahead = {}
    for (low, high, many), at_high in zip(net[1], standing):
        ahead[(low, high)] = at_high
        ahead[(high, low)] = many - at_high
    return ahead


def standing_of(net, ahead):
    """The standing in which so many keys lie ahead in each direction."""
    return [ahead[road[:2]] for road in net[1]]


def has_keys(near, ahead, house):
    """Whether a key lies at a house's end of each of its roads."""
    for other in near.get(house, []):
        if ahead[(other, house)] == 0:
            return False
    return True


def hand_over(near, ahead, house):
    """Let a house work: changes `ahead`."""
    for other in near.get(house, []):
        ahead[(other, house)] -= 1
        ahead[(house, other)] += 1


def go_through(near, ahead, run, resting):
    """Let houses work in turn as far as they can and none rests; changes `ahead`.

    Returns whether all of them could.
    """
    for house in run:
        if house in resting or not has_keys(near, ahead, house):
            return False
        hand_over(near, ahead, house)
    return True


def awake_houses(net, resting):
    """The ascending list of the houses that do not rest."""
    return [house for house in range(net[0]) if house not in resting]


def able_among(near, ahead, houses):
    """Those of a list of houses that can work."""
    return [house for house in houses if has_keys(near, ahead, house)]


def shifted(net, standing, works):
    """What each road comes to at its high house's end behind these works."""
    return [at_high + works[low] - works[high] for (low, high, _), at_high in zip(net[1], standing)]
