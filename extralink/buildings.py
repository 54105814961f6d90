"""Buildings: networks that are made of chains and forks."""

from extralink.errors import BadCount, BadJoint, BadName, DuplicateName
from extralink.naming import valid_name
from extralink.networks import Network, ordered_places

LINK = "link"
CHAIN = "chain"
FORK = "fork"


class Building:
    """A link, a chain of buildings one behind the other, or a fork of buildings side by side.

    It is made by Building.link, + and |, which check what they join.
    """

    def __init__(self, shape, links, start, end, parts):
        self._shape = shape
        self._links = {name: links[name] for name in sorted(links)}
        self._start = start
        self._end = end
        self._parts = tuple(parts)
        self._places = ordered_places(links, start, end)
        self._tailed = has_tail(shape, parts)

    @classmethod
    def link(cls, name, tail, head):
        """Return the building of a single link."""
        for word in (name, tail, head):
            if not valid_name(word):
                raise BadName(word)
        if head == tail:
            raise DuplicateName(head)
        return cls(LINK, {name: (tail, head)}, tail, head, ())

    @property
    def shape(self):
        return self._shape

    @property
    def start(self):
        return self._start

    @property
    def end(self):
        return self._end

    @property
    def names(self):
        return tuple(self._links)

    @property
    def places(self):
        return self._places

    @property
    def parts(self):
        return self._parts

    @property
    def tailed(self):
        return self._tailed

    def network(self):
        """Return the network of the building's links."""
        links = [(name, tail, head) for name, (tail, head) in self._links.items()]
        return Network(links, self._start, self._end)

    def __add__(self, other):
        if other.start != self._end:
            raise BadJoint(self._end)
        check_apart(self, other, (self._end,))
        row = parts_as(CHAIN, self) + parts_as(CHAIN, other)
        return Building(CHAIN, {**self._links, **other._links}, self._start, other.end, row)

    def __or__(self, other):
        if other.start != self._start:
            raise BadJoint(self._start)
        if other.end != self._end:
            raise BadJoint(self._end)
        check_apart(self, other, (self._start, self._end))
        row = by_least_name(parts_as(FORK, self) + parts_as(FORK, other))
        return Building(FORK, {**self._links, **other._links}, self._start, self._end, row)

    def __eq__(self, other):
        if not isinstance(other, Building):
            return False
        if self._start != other._start or self._end != other._end:
            return False
        return self._shape == other._shape and self.names == other.names and self._parts == other._parts

    def __str__(self):
        if self._shape == LINK:
            return str(self.names[0])
        if self._shape == FORK:
            return " | ".join([str(part) for part in self._parts])
        return " + ".join([f"({part})" if part.shape == FORK else str(part) for part in self._parts])


def chain(*parts):
    """Return the building of some buildings one behind the other."""
    if len(parts) == 0:
        raise BadCount(0)
    whole = parts[0]
    for part in parts[1:]:
        whole = whole + part
    return whole


def fork(*parts):
    """Return the building of some buildings side by side."""
    if len(parts) == 0:
        raise BadCount(0)
    whole = parts[0]
    for part in parts[1:]:
        whole = whole | part
    return whole


def building_of(network):
    """Return the building with the links of a network, or None if it is no building."""
    parts = [Building.link(name, tail, head) for name, tail, head in network.triples()]
    fewer = with_two_joined(parts)
    while fewer is not None:
        parts = fewer
        fewer = with_two_joined(parts)
    # Which two are joined first has no influence on where this ends.
    return parts[0] if len(parts) == 1 else None


def with_two_joined(parts):
    """Return the parts of a network with two of them made one, or None if no two can be."""
    for one in parts:
        for two in parts:
            both = two_joined(parts, one, two)
            if both is not None:
                others = [part for part in parts if part.names not in (one.names, two.names)]
                return others + [both]
    return None


def two_joined(parts, one, two):
    """Return the fork or the chain of two parts, or None if they make none in their network."""
    if one.names == two.names:
        return None
    if one.start == two.start and one.end == two.end:
        return one | two
    if one.end == two.start and len([part for part in parts if one.end in (part.start, part.end)]) == 2:
        return one + two
    return None


def parts_as(shape, building):
    """Return the parts that a building adds to a larger one of the shape."""
    return building.parts if building.shape == shape else (building,)


def by_least_name(parts):
    """Return the parts in the order of their least names."""
    found = {part.names[0]: part for part in parts}
    return [found[name] for name in sorted(found)]


def has_tail(shape, parts):
    """Return True if no chain in a building of these parts has two parts that are not links."""
    if shape == CHAIN and len([part for part in parts if part.shape != LINK]) > 1:
        return False
    return all([part.tailed for part in parts])


def check_apart(one, two, joints):
    """Refuse two buildings that share more than the joints, or are too large together."""
    names = [name for name in one.names if name in two.names]
    if len(names) > 0:
        raise DuplicateName(names[0])
    places = [place for place in sorted(one.places) if place in two.places and place not in joints]
    if len(places) > 0:
        raise DuplicateName(places[0])
    many_links = len(one.names) + len(two.names)
    if many_links > Network.MOST_LINKS:
        raise BadCount(many_links)
    many_places = len(one.places) + len(two.places) - len(joints)
    if many_places > Network.MOST_PLACES:
        raise BadCount(many_places)
