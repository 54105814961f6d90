"""Witness ways: ways which show that the time did not fall."""

from extralink.errors import UnknownName
from extralink.ratios import as_ratio
from extralink.standings import loads_of, outflow


def witness(network, before, after):
    """Return the first way whose links all bear load after and no less than before, or None."""
    check_loads(network, before)
    check_loads(network, after)
    ways = [way for way in network.ways() if all([as_ratio(after[name]).sign > 0 for name in way])]
    return first_not_eased(ways, before, after)


def used_witness(network, before, sharing):
    """Return the first way with a load in the sharing whose links all bear no less than before, or None."""
    check_loads(network, before)
    after = loads_of(network, sharing)
    used = [way for way in sorted(sharing) if as_ratio(sharing[way]).sign > 0]
    return first_not_eased(used, before, after)


def first_not_eased(ways, before, after):
    """Return the first way whose links all have a load after that is not below the one before, or None."""
    for way in ways:
        if not any([as_ratio(after[name]).below(before[name]) for name in way]):
            return way
    return None


def cut_load(network, loads, places):
    """Return what the links that lead out of some places bear, less what those that lead into them bear."""
    for place in places:
        if place not in network.places:
            raise UnknownName(place)
    check_loads(network, loads)
    return outflow(network, loads, places)


def check_loads(network, loads):
    for name in network.names:
        if name not in loads:
            raise UnknownName(name)
