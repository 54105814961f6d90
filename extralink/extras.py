"""Extra links: whether opening them can make the time rise."""

from extralink.buildings import building_of
from extralink.cases import bridge_case
from extralink.errors import NoHarm, NotBuilding, UnknownName
from extralink.networks import Network
from extralink.pairs import pair_over

ALONG = "along"
BACK = "back"
ACROSS = "across"


def opened(network, extra):
    """Return the network with some extra links."""
    return Network([*network.triples(), *extra], network.start, network.end)


def extra_kind(network, extra):
    """Return how extra links lie in a building: all along its ways, or some across."""
    check_building(network)
    for link in extra:
        for place in link[1:]:
            if place not in network.places:
                raise UnknownName(place)
    # Only for what it raises.
    opened(network, extra)
    return ACROSS if len(links_across(network, extra)) > 0 else ALONG


def links_across(network, extra):
    """Return the extra links whose tails do not lead to their heads in the network."""
    return [link for link in extra if not network.leads(link[1], link[2])]


def extra_harm(network, extra):
    """Return a case of the network with the extra links that closes all of them."""
    kind = extra_kind(network, extra)
    if kind == ALONG:
        raise NoHarm(kind)
    name, tail, head = links_across(network, extra)[0]
    pair = pair_over(network, name, tail, head)
    return bridge_case(opened(network, extra), pair, tuple([link[0] for link in extra]))


def pair_table(network):
    """Return how the two places of every pair in a building lie to each other."""
    check_building(network)
    return {
        (first, second): pair_kind(network, first, second)
        for first in network.places for second in network.places if first != second
    }


def pair_kind(network, first, second):
    if network.leads(first, second):
        return ALONG
    return BACK if network.leads(second, first) else ACROSS


def check_building(network):
    if building_of(network) is None:
        raise NotBuilding()
