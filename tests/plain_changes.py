"""Changes of a net, told plainly: by the keys that lie at each end of each road."""

import random

from tests import plain


def ends_of(net, standing):
    """For each road, as a frozen set of its houses, a dict of the keys at the end of each of them."""
    return {frozenset(road[:2]): {road[0]: road[2] - at_high, road[1]: at_high}
            for road, at_high in zip(net[1], standing)}


def net_of(houses, ends):
    """The net and the standing with these ends."""
    rows = sorted((min(pair), max(pair), keys) for pair, keys in ends.items())
    return ((houses, [(low, high, keys[low] + keys[high]) for low, high, keys in rows]),
            [keys[high] for low, high, keys in rows])


def is_whole(*values):
    return all(type(value) is int for value in values)


def changed(net, standing, change):
    """What is behind a change, None if it is none that can be done."""
    if type(change) is not tuple or not change or type(change[0]) is not str:
        return None
    word, told, houses = change[0], change[1:], range(net[0])
    ends = ends_of(net, standing)
    if word in ("out", "more", "less") and len(told) == 2 and is_whole(*told) and frozenset(told) in ends:
        u, v = told
        keys = ends[frozenset(told)]
        if word == "out":
            del ends[frozenset(told)]
        elif word == "more":
            keys[v] += 1
        elif keys[v] == 0 or sum(keys.values()) == 1:
            return None
        else:
            keys[v] -= 1
        return net_of(net[0], ends)
    if word == "in" and len(told) == 4 and is_whole(*told):
        u, v, at_u, at_v = told
        if u not in houses or v not in houses or u == v or frozenset((u, v)) in ends or min(at_u, at_v) < 0:
            return None
        ends[frozenset((u, v))] = {u: at_u, v: at_v}
        return net_of(net[0], ends) if at_u + at_v else None
    if word == "house" and len(told) == 1 and fits_ends(net, told[0]):
        for house, here, there in told[0]:
            ends[frozenset((house, net[0]))] = {house: there, net[0]: here}
        return net_of(net[0] + 1, ends)
    if len(told) == 1 and is_whole(*told) and told[0] in houses:
        if word == "work" and plain.can_work(net, standing, told[0]):
            return (net[0], list(net[1])), plain.work(net, standing, told[0])
        if word == "gone" and net[0] > 1:
            names = [house for house in houses if house != told[0]]
            left = {pair: keys for pair, keys in ends.items() if told[0] not in pair}
            return net_of(net[0] - 1, {frozenset(names.index(house) for house in pair):
                                       {names.index(house): many for house, many in keys.items()}
                                       for pair, keys in left.items()})
    return None


def fits_ends(net, value):
    """Whether a value tells the roads of a new house."""
    if type(value) is not list:
        return False
    for end in value:
        if type(end) is not tuple or len(end) != 3 or not is_whole(*end):
            return False
        if end[0] not in range(net[0]) or min(end[1:]) < 0 or end[1] + end[2] == 0:
            return False
    houses = [end[0] for end in value]
    return houses == sorted(set(houses))


def possible(net, chance, most_houses=6):
    """Many changes of a net, those that can be done among them; new keys as chance tells."""
    houses = range(net[0])
    found = [(word, u, v) for word in ("out", "more", "less") for u in houses for v in houses]
    found += [("in", u, v, chance.randint(0, 2), chance.randint(0, 2)) for u in houses for v in houses]
    found += [(word, house) for word in ("work", "gone") for house in houses]
    if net[0] < most_houses:
        for _ in range(3):
            ends = [(house, chance.randint(0, 2), chance.randint(0, 2)) for house in houses if chance.random() < 0.5]
            found.append(("house", ends))
    return found


def random_history(chance, net, standing, many, words=None):
    """A history of so many changes, with these words alone, and what is behind it."""
    history = []
    for _ in range(many):
        words_now = words or ("out", "in", "more", "less", "work", "work", "house", "gone")
        word = chance.choice(words_now)
        choice = [change for change in possible(net, chance)
                  if change[0] == word and changed(net, standing, change) is not None]
        if choice:
            history.append(chance.choice(choice))
            net, standing = changed(net, standing, history[-1])
    return history, (net, standing)


def some_histories(many, seed, words=None, length=12):
    """Nets of all kinds, standings, and histories of theirs."""
    chance = random.Random(seed)
    return [(net, standing, random_history(chance, net, standing, chance.randint(0, length), words)[0])
            for net, standing in plain.some_cases(many, seed)]
