"""Reckoning over all lots of houses: a lot is a number, in whose bits each house has its place."""

from keyroads.roads import heads_of


def lots_of(many):
    """How many lots of so many houses there are, the empty one among them."""
    return 1 << many


def sizes_of_lots(many):
    """For each lot of so many houses, how many are in it."""
    sizes = [0]
    for lot in range(1, lots_of(many)):
        sizes.append(sizes[lot >> 1] + (lot & 1))
    return sizes


def fewest_to_leave_away(pairs):
    """The fewest of these pairs that have to be left away until the others have no ring.

    Houses are put into a row one behind the other; left away is each pair that
    leads from a house back to one that stands ahead of it.
    """
    houses = sorted({house for pair in pairs for house in pair})
    heads = [0] * len(houses)
    for tail, head in pairs:
        heads[houses.index(tail)] += 1 << houses.index(head)
    sizes = sizes_of_lots(len(houses))
    fewest = [0]
    for lot in range(1, lots_of(len(houses))):
        fewest.append(min([fewest[lot - (1 << at)] + sizes[heads[at] & lot]
                           for at in range(len(houses)) if (lot >> at) & 1]))
    return fewest[-1]


def first_to_leave_away(pairs):
    """The first list, in order, of as few of these ascending pairs as can be without which no ring is left."""
    left = pairs
    taken = []
    many = fewest_to_leave_away(left)
    for pair in pairs:
        if many > 0:
            others = [other for other in left if other != pair]
            if fewest_to_leave_away(others) < many:
                many -= 1
                left = others
                taken.append(pair)
    return taken


def products_in_lots(houses, factors):
    """For each lot of houses, the product of the factors of the pairs within it."""
    products = []
    for lot in range(lots_of(houses)):
        product = 1
        for (low, high), factor in factors.items():
            if (lot >> low) & 1 and (lot >> high) & 1:
                product *= factor
        products.append(product)
    return products


def greatest_sum(keys, start):
    """The greatest sum of keys over ways from a house without a house twice, along these directions."""
    heads = heads_of(sorted(keys))
    # Ways over the same lot of houses to the same last one may be gone on alike.
    ways = {(1 << start, start): 0}
    greatest = 0
    while ways:
        later = {}
        for (lot, last), total in ways.items():
            for head in heads[last]:
                if not (lot >> head) & 1:
                    name = (lot + (1 << head), head)
                    later[name] = max(later.get(name, 0), total + keys[(last, head)])
        greatest = max([greatest] + list(later.values()))
        ways = later
    return greatest
