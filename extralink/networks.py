"""Networks: the links over which requests go from a start to an end."""

from extralink.errors import BadCount, BadLine, BadName, DuplicateName
from extralink.errors import HasRound, NoWay, UnknownName, UselessLink
from extralink.naming import valid_name


class Network:
    """Links that lead from a start to an end without a round."""

    MOST_LINKS = 10
    MOST_PLACES = 8

    def __init__(self, links, start, end):
        if not 1 <= len(links) <= Network.MOST_LINKS:
            raise BadCount(len(links))
        check_ends(start, end)
        check_names(links)
        given = {name: (tail, head) for name, tail, head in links}
        table = {name: given[name] for name in sorted(given)}
        check_rounds(table)
        check_use(table, start, end)
        places = ordered_places(table, start, end)
        if len(places) > Network.MOST_PLACES:
            raise BadCount(len(places))
        self._start = start
        self._end = end
        self._links = table
        self._places = places
        self._behind = {place: places_behind(table, place) for place in places}

    @classmethod
    def read(cls, text):
        """Return the network that a text of the form of str tells."""
        rows = text.split("\n")
        ends = rows[0].split(" > ")
        if not are_names(ends, 2):
            raise BadLine(1, rows[0])
        if not 1 <= len(rows) - 1 <= cls.MOST_LINKS:
            raise BadCount(len(rows) - 1)
        links = []
        for number, row in enumerate(rows[1:], start=2):
            words = link_words(row)
            if not are_names(words, 3):
                raise BadLine(number, row)
            links.append(words)
        return cls(links, ends[0], ends[1])

    @property
    def start(self):
        return self._start

    @property
    def end(self):
        return self._end

    @property
    def names(self):
        return tuple(self._links)

    @property
    def places(self):
        return self._places

    def leads(self, first, second):
        """Return True if links can be followed from the first place to the second."""
        for place in (first, second):
            if place not in self._places:
                raise UnknownName(place)
        return second in self._behind[first]

    def ways(self):
        """Yield the ways from the start to the end in ascending order."""
        yield from walks(self, self._start, self._end)

    def triples(self):
        """Return the links as triples (name, tail, head) in the order of their names."""
        return [(name, tail, head) for name, (tail, head) in self._links.items()]

    def without(self, names):
        """Return the network without some links and what they leave useless."""
        for name in names:
            if name not in self._links:
                raise UnknownName(name)
        left = {name: ends for name, ends in self._links.items() if name not in names}
        useful = useful_names(left, self._start, self._end)
        if len(useful) == 0:
            raise NoWay()
        links = [(name, tail, head) for name, tail, head in self.triples() if name in useful]
        return Network(links, self._start, self._end)

    def joined(self, name, tail, head):
        """Return the network with one link more."""
        return Network(self.triples() + [(name, tail, head)], self._start, self._end)

    def __getitem__(self, name):
        if name not in self._links:
            raise UnknownName(name)
        return self._links[name]

    def __iter__(self):
        raise TypeError("a network is not iterated over, its names and ways are")

    def __contains__(self, name):
        return name in self._links

    def __len__(self):
        return len(self._links)

    def __eq__(self, other):
        if not isinstance(other, Network):
            return False
        return self._start == other._start and self._end == other._end and self._links == other._links

    def __str__(self):
        rows = [f"{name}: {tail} > {head}" for name, tail, head in self.triples()]
        return "\n".join([f"{self._start} > {self._end}", *rows])


def walks(network, first, last):
    """Yield the tuples of links from one place to another in ascending order.

    From a place to itself there is the empty tuple and no other one.
    """
    if first == last:
        yield ()
        return
    for name in network.names:
        tail, head = network[name]
        if tail == first:
            for rest in walks(network, head, last):
                yield (name, *rest)


def first_walk(network, first, last):
    """Return the first tuple of links from one place to another that it leads to."""
    return list(walks(network, first, last))[0]


def stops(network, names, first):
    """Return the places of some links that can be followed from the first place."""
    return [first] + [network[name][1] for name in names]


def connects(network, names, first, last):
    """Return True if the links can be followed from the one place to the other one."""
    places = stops(network, names, first)
    return [network[name][0] for name in names] == places[:-1] and places[-1] == last


def is_way(network, names):
    """Return True if a tuple of strings is a way of the network."""
    return all([name in network for name in names]) and connects(network, names, network.start, network.end)


def ordered_places(table, start, end):
    """Return the start, the other places of a table of links in ascending order, and the end."""
    inner = [place for ends in table.values() for place in ends if place not in (start, end)]
    return (start, *sorted(set(inner)), end)


def places_behind(table, first):
    """Return the places of a table of links that one place leads to."""
    found = []
    waiting = [first]
    while len(waiting) > 0:
        place = waiting.pop()
        for tail, head in table.values():
            if tail == place and head not in found:
                found.append(head)
                waiting.append(head)
    return found


def useful_names(table, start, end):
    """Return the names of the links that lie on some way."""
    reached = [start, *places_behind(table, start)]
    return [
        name for name, (tail, head) in table.items()
        if tail in reached and end in [head, *places_behind(table, head)]
    ]


def check_ends(start, end):
    for place in (start, end):
        if not valid_name(place):
            raise BadName(place)
    if start == end:
        raise DuplicateName(end)


def check_names(links):
    known = {}
    for name, tail, head in links:
        if not valid_name(name):
            raise BadName(name)
        if name in known:
            raise DuplicateName(name)
        for place in (tail, head):
            if not valid_name(place):
                raise BadName(place)
        known[name] = True


def check_rounds(table):
    for name, (tail, head) in table.items():
        # A link whose head is its tail leads from there to there, too.
        if tail in places_behind(table, head):
            raise HasRound(name)


def check_use(table, start, end):
    useful = useful_names(table, start, end)
    for name in table:
        if name not in useful:
            raise UselessLink(name)


def are_names(words, many):
    """Return True if there are so many words and all of them are names."""
    return len(words) == many and all([valid_name(word) for word in words])


def link_words(row):
    """Return what stands before the colon of a row and on the sides of its arrows."""
    name, _, ends = row.partition(": ")
    return [name, *ends.split(" > ")]
