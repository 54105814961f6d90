"""Lines: the times that delays take at every load."""

from extralink.errors import BadCount, OutOfRange
from extralink.ratios import Ratio, as_ratio, least


class Line:
    """A time for every load from 0 on that changes evenly between corners and never falls."""

    def __init__(self, corners, slope):
        check_corners(corners)
        if as_ratio(slope).below(0):
            raise OutOfRange(slope)
        loads = [as_ratio(corner[0]) for corner in corners]
        times = [as_ratio(corner[1]) for corner in corners]
        rises = rises_between(loads, times) + [as_ratio(slope)]
        bends = [at for at in range(len(loads)) if at == 0 or rises[at] != rises[at - 1]]
        self._loads = tuple([loads[at] for at in bends])
        self._times = tuple([times[at] for at in bends])
        # What the time grows by for each unit of load behind each corner.
        self._rises = tuple([rises[at] for at in bends])

    @classmethod
    def straight(cls, base, slope=0):
        """Return the line with no corner but the one at the load 0."""
        return cls([(0, base)], slope)

    @property
    def corners(self):
        return tuple(zip(self._loads, self._times))

    @property
    def slope(self):
        return self._rises[-1]

    def time_at(self, load):
        """Return the time at a ratio from 0 on."""
        at = many_upto(self._loads, load) - 1
        return self._times[at] + self._rises[at] * (load - self._loads[at])

    def reached(self, time):
        """Return the least load at which the line takes this time, or 0 if it always takes longer.

        The line must not stay below the time for ever.
        """
        return self.load_behind(many_below(self._times, time), time)

    def left(self, time):
        """Return the greatest load at which the line takes at most this time.

        It is 0 if the line always takes longer, and None if it never does.
        """
        many = many_upto(self._times, time)
        if many == len(self._times) and self.slope.sign == 0:
            return None
        return self.load_behind(many, time)

    def load_behind(self, many, time):
        """Return the load at which the piece behind so many corners gets to the time."""
        if many == 0:
            return Ratio(0)
        at = many - 1
        return self._loads[at] + (time - self._times[at]).over(self._rises[at])

    def spread(self, time, most):
        """Return how much load, up to a limit, the line takes on while it stays at the time."""
        last = self.left(time)
        if last is None:
            return most
        return least([most, last - self.reached(time)])

    def covers(self, other):
        """Return True if this line is nowhere below the other one."""
        if self.slope.below(other.slope):
            return False
        loads = ascending(self._loads, other._loads)
        return not any([self.time_at(load).below(other.time_at(load)) for load in loads])

    def __call__(self, load):
        if as_ratio(load).below(0):
            raise OutOfRange(load)
        return self.time_at(as_ratio(load))

    def __add__(self, other):
        loads = ascending(self._loads, other._loads)
        corners = [(load, self.time_at(load) + other.time_at(load)) for load in loads]
        return Line(corners, self.slope + other.slope)

    def __or__(self, other):
        corners = []
        for time in ascending(self._times, other._times):
            first = self.reached(time) + other.reached(time)
            corners.append((first, time))
            ends = [self.left(time), other.left(time)]
            # A line that stays at a time for ever takes any further load.
            if ends[0] is None or ends[1] is None:
                return Line(corners, 0)
            last = ends[0] + ends[1]
            if first.below(last):
                corners.append((last, time))
        return Line(corners, (self.slope * other.slope).over(self.slope + other.slope))

    def __eq__(self, other):
        if not isinstance(other, Line):
            return False
        return self._loads == other._loads and self._times == other._times and self._rises == other._rises


def shares(lines, load):
    """Return shares of a load for some lines such that all that are used take one and the same time."""
    if len(lines) == 0:
        raise BadCount(0)
    total = as_ratio(load)
    if total.below(0):
        raise OutOfRange(load)
    time = side_by_side(lines).time_at(total)
    least_shares = [line.reached(time) for line in lines]
    rest = total - sum(least_shares)
    found = []
    for line, share in zip(lines, least_shares):
        more = line.spread(time, rest)
        found.append(share + more)
        rest = rest - more
    return tuple(found)


def side_by_side(lines):
    """Return the line of one or more lines side by side."""
    whole = lines[0]
    for line in lines[1:]:
        whole = whole | line
    return whole


def check_corners(corners):
    if len(corners) == 0:
        raise BadCount(0)
    load, time = corners[0]
    if as_ratio(load).sign != 0:
        raise OutOfRange(load)
    if as_ratio(time).below(0):
        raise OutOfRange(time)
    for before, corner in zip(corners, corners[1:]):
        if not as_ratio(before[0]).below(corner[0]):
            raise OutOfRange(corner[0])
        if as_ratio(corner[1]).below(before[1]):
            raise OutOfRange(corner[1])


def rises_between(loads, times):
    """Return what the time grows by for each unit of load between every two neighbouring corners."""
    return [
        (times[at + 1] - times[at]).over(loads[at + 1] - loads[at])
        for at in range(len(loads) - 1)
    ]


def many_below(values, value):
    """Return how many of some ascending ratios are less than a ratio."""
    low = 0
    high = len(values)
    while low < high:
        middle = (low + high) // 2
        if values[middle].below(value):
            low = middle + 1
        else:
            high = middle
    return low


def many_upto(values, value):
    """Return how many of some ascending ratios are at most a ratio."""
    low = 0
    high = len(values)
    while low < high:
        middle = (low + high) // 2
        if value.below(values[middle]):
            high = middle
        else:
            low = middle + 1
    return low


def ascending(first, second):
    """Return the ratios of two ascending tuples in ascending order, each of them once."""
    found = []
    one = 0
    two = 0
    while one < len(first) or two < len(second):
        if two == len(second) or (one < len(first) and first[one].below(second[two])):
            value = first[one]
            one += 1
        else:
            value = second[two]
            two += 1
        if len(found) == 0 or found[-1].below(value):
            found.append(value)
    return found
