"""Books: the links of a network, which can be changed."""

from extralink.errors import BadCount, BadName, NothingToUndo, UnknownName
from extralink.naming import valid_name
from extralink.networks import Network, check_ends
from extralink.verdicts import decide


class Book:
    """Links under their names, in an order, with all changes that can be taken back."""

    def __init__(self, start, end):
        check_ends(start, end)
        self._start = start
        self._end = end
        self._links = {}
        # The links before each change that has not been taken back.
        self._past = []

    @property
    def order(self):
        return tuple(self._links)

    def drop(self, name):
        """Remove a link."""
        if name not in self._links:
            raise UnknownName(name)
        self._past.append(self._links)
        self._links = {other: ends for other, ends in self._links.items() if other != name}

    def undo(self):
        """Take back the last change that has not been taken back."""
        if len(self._past) == 0:
            raise NothingToUndo()
        self._links = self._past.pop()

    def network(self):
        """Return the network of the links."""
        links = [(name, tail, head) for name, (tail, head) in self._links.items()]
        return Network(links, self._start, self._end)

    def verdict(self):
        """Return the verdict of the network."""
        return decide(self.network())

    def tried(self, changes):
        """Return the verdict that the book would have after some changes, and make none."""
        trial = Book(self._start, self._end)
        for name, ends in list(self._links.items()):
            trial[name] = ends
        for name, ends in changes:
            if ends is None:
                trial.drop(name)
            else:
                trial[name] = ends
        return trial.verdict()

    def __getitem__(self, name):
        if name not in self._links:
            raise UnknownName(name)
        return self._links[name]

    def __setitem__(self, name, ends):
        tail, head = ends
        for word in (name, tail, head):
            if not valid_name(word):
                raise BadName(word)
        if name not in self._links and len(self._links) == Network.MOST_LINKS:
            raise BadCount(len(self._links) + 1)
        self._past.append(self._links)
        self._links = {**self._links, name: (tail, head)}

    def __iter__(self):
        raise TypeError("a book is not iterated over, its order is")

    def __contains__(self, name):
        return name in self._links

    def __len__(self):
        return len(self._links)
