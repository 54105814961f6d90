"""Closings: links without which a network is a building."""

from extralink.buildings import building_of
from extralink.errors import NoWay


def least_closings(network):
    """Return all closings of a network that contain no smaller closing."""
    found = []
    waiting = [()]
    # The fewest names come first, so a closing is met before those that contain it.
    while len(waiting) > 0:
        further = []
        for names in waiting:
            if contains_one(names, found):
                continue
            rest = network_without(network, names)
            if rest is not None and building_of(rest) is not None:
                found.append(names)
            elif rest is not None:
                further.extend(with_one_more(network, names))
        waiting = further
    return found


def contains_one(names, closings):
    """Return True if all names of one of the closings are among the names."""
    return any([all([name in names for name in closing]) for closing in closings])


def network_without(network, names):
    """Return the network without some links, or None if no way is left."""
    try:
        return network.without(names)
    except NoWay:
        return None


def with_one_more(network, names):
    """Return the tuples of the names and one further name that comes behind them."""
    return [(*names, name) for name in network.names if names == () or name > names[-1]]
