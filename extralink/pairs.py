"""Bridged pairs: two ways side by side with a bridge from the first to the second."""

from extralink.networks import connects, first_walk, stops, walks


def check_pair(network, pair):
    """Return True if seven tuples of names are a bridged pair of the network, and False otherwise."""
    if len(pair) != 7 or min([len(names) for names in pair[1:6]]) == 0:
        return False
    if not all([name in network for names in pair for name in names]):
        return False
    cx, xm, cv = pair[1:4]
    c = network[cx[0]][0]
    x = network[cx[-1]][1]
    v = network[cv[-1]][1]
    m = network[xm[-1]][1]
    # The four places differ if links lead from c to x, from x to v and from v to m.
    ends = ((network.start, c), (c, x), (x, m), (c, v), (v, m), (x, v), (m, network.end))
    if not all([connects(network, names, first, last) for names, (first, last) in zip(pair, ends)]):
        return False
    return apart([stops(network, names, first) for names, (first, _) in zip(pair, ends)])


def find_pair(network):
    """Return a bridged pair of the network, or None if there is none."""
    for one, two in rings(network):
        for middle in crossings(network, one, two):
            return framed(network, middle)
    return None


def pair_over(network, name, tail, head):
    """Return the bridged pair that a further link between two places of a network makes as its bridge.

    The places must lie apart on two walks that share no place but their ends.
    """
    for one, two in rings(network):
        cut = cut_at(network, one, tail)
        mark = cut_at(network, two, head)
        if cut is not None and mark is not None:
            return framed(network, (one[:cut], one[cut:], two[:mark], two[mark:], (name,)))
    return None


def rings(network):
    """Yield every two walks with the same ends that share no place between."""
    for first in network.places:
        for last in network.places:
            found = list(walks(network, first, last))
            for one in found:
                for two in found:
                    if apart([stops(network, one, first), stops(network, two, first)]):
                        yield one, two


def crossings(network, one, two):
    """Yield two walks that share no place between, each cut in two, and the bridges between the cuts."""
    taken = [network[name][1] for name in (*one, *two)]
    for cut in range(1, len(one)):
        for mark in range(1, len(two)):
            here = network[one[cut]][0]
            there = network[two[mark]][0]
            for bridge in walks(network, here, there):
                between = stops(network, bridge, here)[1:-1]
                if not any([stop in taken for stop in between]):
                    yield (one[:cut], one[cut:], two[:mark], two[mark:], bridge)


def framed(network, middle):
    """Return the bridged pair with these five tuples in the middle."""
    # What leads to the first place cannot lie behind it, nor what follows the
    # last place before it, so any two walks will do.
    lead = first_walk(network, network.start, network[middle[0][0]][0])
    rest = first_walk(network, network[middle[1][-1]][1], network.end)
    return (lead, *middle, rest)


def cut_at(network, names, place):
    """Return how many links of a walk lead to a place between its ends, or None if it is not there."""
    for at in range(1, len(names)):
        if network[names[at]][0] == place:
            return at
    return None


def apart(rows):
    """Return True if no place between the ends of one row is in another row."""
    for at, row in enumerate(rows):
        others = rows[:at] + rows[at + 1:]
        for place in row[1:-1]:
            if any([place in other for other in others]):
                return False
    return True
