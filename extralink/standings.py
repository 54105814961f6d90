"""Standings: loads and times at which no request has a quicker way."""

from extralink.buildings import CHAIN, LINK
from extralink.errors import BadWay, OutOfRange, UnknownName
from extralink.lines import shares, side_by_side
from extralink.networks import is_way, walks
from extralink.ratios import Ratio, as_ratio, least


class Standing:
    """A load for every link and a time for every place."""

    def __init__(self, loads, times):
        self._loads = {name: as_ratio(load) for name, load in loads.items()}
        self._times = {place: as_ratio(time) for place, time in times.items()}

    @property
    def loads(self):
        return dict(self._loads)

    @property
    def times(self):
        return dict(self._times)

    def __eq__(self, other):
        if not isinstance(other, Standing):
            return False
        return self._loads == other._loads and self._times == other._times


def loads_of(network, sharing):
    """Return the loads of all links for a sharing."""
    loads = {name: Ratio(0) for name in network.names}
    for way in sorted(sharing):
        if not is_way(network, way):
            raise BadWay(way)
        if as_ratio(sharing[way]).below(0):
            raise OutOfRange(sharing[way])
        for name in way:
            loads[name] = loads[name] + sharing[way]
    return loads


def way_time(delays, loads, way):
    """Return the sum of the delays of some links at their loads."""
    return sum([delays[name](loads[name]) for name in way], start=Ratio(0))


def check_standing(network, delays, total, standing):
    """Return True if this is a standing of the network for the delays and the total, and False otherwise."""
    loads = standing.loads
    times = standing.times
    if sorted(loads) != sorted(network.names) or sorted(times) != sorted(network.places):
        return False
    if as_ratio(total).sign < 1 or any([load.sign < 0 for load in loads.values()]):
        return False
    return is_balanced(network, loads, as_ratio(total)) and is_timed(network, delays, loads, times)


def is_balanced(network, loads, total):
    """Return True if the start gives off the total and every inner place what it takes in."""
    if outflow(network, loads, (network.start,)) != total:
        return False
    return all([outflow(network, loads, (place,)).sign == 0 for place in network.places[1:-1]])


def is_timed(network, delays, loads, times):
    """Return True if the times are those of quickest ways, and links with load lie on such ways."""
    if times[network.start].sign != 0:
        return False
    for name in network.names:
        tail, head = network[name]
        spare = times[tail] + delays[name](loads[name]) - times[head]
        if spare.sign < 0 or (spare.sign > 0 and loads[name].sign > 0):
            return False
    return True


def outflow(network, loads, places):
    """Return what the links out of some places bear minus what the links into them bear."""
    total = Ratio(0)
    for name in network.names:
        tail, head = network[name]
        if tail in places and head not in places:
            total = total + loads[name]
        if head in places and tail not in places:
            total = total - loads[name]
    return total


def standing(building, delays, total):
    """Return a standing of the building's network for the delays and the total."""
    check_delays(building, delays)
    if as_ratio(total).sign < 1:
        raise OutOfRange(total)
    loads = settled_loads(building, delays, as_ratio(total))
    return timed_standing(building.network(), delays, loads)


def time_line(building, delays):
    """Return the line of the times that the standings of the building's network have."""
    check_delays(building, delays)
    return line_over(building, delays)


def check_delays(building, delays):
    for name in building.names:
        if name not in delays:
            raise UnknownName(name)


def line_over(building, delays):
    """Return the line of a building whose links all have delays."""
    if building.shape == LINK:
        return delays[building.names[0]]
    lines = [line_over(part, delays) for part in building.parts]
    if building.shape == CHAIN:
        return sum(lines[1:], start=lines[0])
    return side_by_side(lines)


def settled_loads(building, delays, load):
    """Return the loads of the links in a standing in which a building bears the load."""
    if building.shape == LINK:
        return {building.names[0]: load}
    parts = building.parts
    if building.shape == CHAIN:
        borne = [load for _ in parts]
    else:
        borne = shares([line_over(part, delays) for part in parts], load)
    found = {}
    for part, share in zip(parts, borne):
        found.update(settled_loads(part, delays, share))
    return found


def timed_standing(network, delays, loads):
    """Return the standing with some loads, which must be those of a standing."""
    # The time of a quickest walk fits every standing with these loads: links
    # with load only lie on such walks, and no other link is quicker.
    times = {
        place: least([way_time(delays, loads, walk) for walk in walks(network, network.start, place)])
        for place in network.places
    }
    return Standing(loads, times)
