"""The errors of the program.

No error makes a message of its arguments: they may be of any kind and of any
size, and an error has to keep them as they are.
"""


class ExtralinkError(ValueError):
    """Something that a caller passed is refused."""


class BadName(ExtralinkError):
    """A string is not a name."""

    def __init__(self, name):
        self.name = name


class DuplicateName(ExtralinkError):
    """A name stands where another one is needed."""

    def __init__(self, name):
        self.name = name


class UnknownName(ExtralinkError):
    """Nothing has this name."""

    def __init__(self, name):
        self.name = name


class BadCount(ExtralinkError):
    """There are too few or too many of something."""

    def __init__(self, count):
        self.count = count


class OutOfRange(ExtralinkError):
    """A number is too small or too great."""

    def __init__(self, value):
        self.value = value


class BadLine(ExtralinkError):
    """A row of a text is not of its form."""

    def __init__(self, number, text):
        self.number = number
        self.text = text


class BadText(ExtralinkError):
    """A text is not of its form."""

    def __init__(self, text):
        self.text = text


class HasRound(ExtralinkError):
    """A link leads back to where it comes from."""

    def __init__(self, name):
        self.name = name


class UselessLink(ExtralinkError):
    """A link lies on no way."""

    def __init__(self, name):
        self.name = name


class BadJoint(ExtralinkError):
    """Two buildings do not meet at this place."""

    def __init__(self, place):
        self.place = place


class BadWay(ExtralinkError):
    """A tuple is not a way of the network."""

    def __init__(self, way):
        self.way = way


class NoWay(ExtralinkError):
    """No way is left."""


class NotBuilding(ExtralinkError):
    """A network is not a building."""


class NoHarm(ExtralinkError):
    """What is asked for never happens in networks of this kind."""

    def __init__(self, kind):
        self.kind = kind


class NothingToUndo(ExtralinkError):
    """There is no change to take back."""
