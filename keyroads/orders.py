"""The order of works in a run, held against that in another run."""


def numbered(run):
    """For each work of a run, its house and its number, from 1 on."""
    works = {}
    found = []
    for house in run:
        works[house] = works.get(house, 0) + 1
        found.append((house, works[house]))
    return found


def places_in(one, other):
    """For each work of one run, its place in the other run, which does the same works."""
    places = {name: at for at, name in enumerate(numbered(other))}
    return [places[name] for name in numbered(one)]


def count_turned(places):
    """How many pairs of places stand the other way round."""
    return sum([1 for at in range(len(places)) for later in places[at + 1:] if later < places[at]])


def first_turned(places):
    """The first place whose item and the next one stand the other way round, None if none does."""
    for at in range(len(places) - 1):
        if places[at + 1] < places[at]:
            return at
    return None


def exchanged(items, at):
    """A new list in which an item and the next one have changed places."""
    return items[:at] + [items[at + 1], items[at]] + items[at + 2:]
