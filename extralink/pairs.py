"""Bridged pairs: two ways side by side with a bridge from the first to the second."""

from extralink.networks import walks


def check_pair(network, pair):
    """Return True if seven tuples of names are a bridged pair of the network, and False otherwise."""
    if len(pair) != 7 or min([len(names) for names in pair[1:6]]) == 0:
        return False
    if not all([name in network for names in pair for name in names]):
        return False
    cx, xm, cv = pair[1:4]
    c = network[cx[0]][0]
    x = network[cx[-1]][1]
    v = network[cv[-1]][1]
    m = network[xm[-1]][1]
    # The four places differ if links lead from c to x, from x to v and from v to m.
    ends = ((network.start, c), (c, x), (x, m), (c, v), (v, m), (x, v), (m, network.end))
    if not all([connects(network, names, first, last) for names, (first, last) in zip(pair, ends)]):
        return False
    return apart([stops(network, names, first) for names, (first, _) in zip(pair, ends)])


def find_pair(network):
    """Return a bridged pair of the network, or None if there is none."""
    for first in network.places:
        for last in network.places:
            for middle in middles(network, first, last):
                # What leads to the first place cannot lie behind it, nor what
                # follows the last place before it, so any two walks will do.
                lead = list(walks(network, network.start, first))[0]
                rest = list(walks(network, last, network.end))[0]
                return (lead, *middle, rest)
    return None


def middles(network, first, last):
    """Yield the five inner tuples of the bridged pairs between two places."""
    found = list(walks(network, first, last))
    for one in found:
        for two in found:
            if apart([stops(network, one, first), stops(network, two, first)]):
                yield from crossings(network, one, two)


def crossings(network, one, two):
    """Yield two walks that share no place between, each cut in two, and the bridges between the cuts."""
    taken = [network[name][1] for name in (*one, *two)]
    for cut in range(1, len(one)):
        for mark in range(1, len(two)):
            here = network[one[cut]][0]
            there = network[two[mark]][0]
            for bridge in walks(network, here, there):
                between = stops(network, bridge, here)[1:-1]
                if not any([stop in taken for stop in between]):
                    yield (one[:cut], one[cut:], two[:mark], two[mark:], bridge)


def connects(network, names, first, last):
    """Return True if the links can be followed from the one place to the other one."""
    places = stops(network, names, first)
    return [network[name][0] for name in names] == places[:-1] and places[-1] == last


def stops(network, names, first):
    """Return the places of some links that can be followed from the first place."""
    return [first] + [network[name][1] for name in names]


def apart(rows):
    """Return True if no place between the ends of one row is in another row."""
    for at, row in enumerate(rows):
        others = rows[:at] + rows[at + 1:]
        for place in row[1:-1]:
            if any([place in other for other in others]):
                return False
    return True
