"""Traps: a way that takes all requests although two others would serve them better."""

from extralink.buildings import CHAIN, FORK
from extralink.lines import Line
from extralink.networks import first_walk
from extralink.ratios import Ratio
from extralink.standings import loads_of, timed_standing


class Trap:
    """The crowded way of a network, the two ways that it draws requests from, and where their delays are.

    The delay of a steep link is its load, that of a level link is 1. The
    crowded way goes over both steep links, and each of the two others over one
    steep link and one level one.
    """

    def __init__(self, crowded, others, steep, level):
        self.crowded = crowded
        self.others = others
        self.steep = steep
        self.level = level

    def delays_in(self, network):
        """Return delays at which no link beside the three ways makes a way quicker."""
        delays = {name: Line.straight(2) for name in network.names}
        for name in (*self.crowded, *self.others[0], *self.others[1]):
            delays[name] = Line.straight(0)
        for name in self.steep:
            delays[name] = Line.straight(0, 1)
        for name in self.level:
            delays[name] = Line.straight(1)
        return delays

    def crowding(self):
        """Return the sharing with the total 1 that bears on the crowded way alone."""
        return {self.crowded: Ratio(1)}

    def halving(self):
        """Return the sharing with the total 1 that bears on the two other ways alike."""
        return {way: Ratio(1, 2) for way in self.others}


def bridge_trap(pair):
    """Return the trap of a bridged pair, whose crowded way goes over the bridge."""
    lead, cx, xm, cv, vm, xv, rest = pair
    ways = ((*lead, *cx, *xm, *rest), (*lead, *cv, *vm, *rest))
    return Trap((*lead, *cx, *xv, *vm, *rest), ways, (cx[0], vm[0]), (xm[0], cv[0]))


def woven_trap(building):
    """Return the trap of two forks in a row, which a woven building has."""
    one, two = forks_of(woven_chain(building))[:2]
    network = building.network()
    lead = first_walk(network, network.start, one.start)
    middle = first_walk(network, one.end, two.start)
    rest = first_walk(network, two.end, network.end)
    quick, slow = [branch_way(branch) for branch in one.parts[:2]]
    fast, late = [branch_way(branch) for branch in two.parts[:2]]
    ways = ((*lead, *quick, *middle, *late, *rest), (*lead, *slow, *middle, *fast, *rest))
    return Trap((*lead, *quick, *middle, *fast, *rest), ways, (quick[0], fast[0]), (slow[0], late[0]))


def woven_chain(building):
    """Return a chain with two forks or more in the building, or None if there is none."""
    if building.shape == CHAIN and len(forks_of(building)) > 1:
        return building
    for part in building.parts:
        found = woven_chain(part)
        if found is not None:
            return found
    return None


def forks_of(building):
    return [part for part in building.parts if part.shape == FORK]


def branch_way(building):
    """Return the first way through a building."""
    return first_walk(building.network(), building.start, building.end)


def standing_of(network, delays, sharing):
    """Return the standing with the loads of a sharing, which must be those of a standing."""
    return timed_standing(network, delays, loads_of(network, sharing))
