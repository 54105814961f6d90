"""Cases and swaps: how closing links, or another sharing, makes requests faster."""

from extralink.buildings import building_of
from extralink.errors import BadWay, NoHarm, NoWay, OutOfRange, UnknownName
from extralink.ratios import Ratio, as_ratio
from extralink.standings import check_standing, loads_of, way_time
from extralink.traps import bridge_trap, standing_of, woven_trap
from extralink.verdicts import BRIDGED, TAIL, decide


class Case:
    """Delays and a total at which closing some links makes the time fall."""

    def __init__(self, delays, total, closed, before, after):
        self._delays = dict(delays)
        self._total = as_ratio(total)
        self._closed = tuple(closed)
        self._before = before
        self._after = after

    @property
    def delays(self):
        return dict(self._delays)

    @property
    def total(self):
        return self._total

    @property
    def closed(self):
        return self._closed

    @property
    def before(self):
        return self._before

    @property
    def after(self):
        return self._after


class Swap:
    """Delays and a total at which another sharing is better for all requests than a standing."""

    def __init__(self, delays, total, before, sharing):
        self._delays = dict(delays)
        self._total = as_ratio(total)
        self._before = before
        self._sharing = {way: as_ratio(load) for way, load in sharing.items()}

    @property
    def delays(self):
        return dict(self._delays)

    @property
    def total(self):
        return self._total

    @property
    def before(self):
        return self._before

    @property
    def sharing(self):
        return {way: load for way, load in self._sharing.items()}


def check_case(network, case):
    """Return True if the case is one of the network, and False otherwise."""
    try:
        less = network.without(case.closed)
    except (UnknownName, NoWay):
        return False
    if not check_standing(network, case.delays, case.total, case.before):
        return False
    if not check_standing(less, case.delays, case.total, case.after):
        return False
    return case.after.times[network.end].below(case.before.times[network.end])


def harm(network):
    """Return a case of the network that closes one link."""
    verdict = decide(network)
    if verdict.kind != BRIDGED:
        raise NoHarm(verdict.kind)
    pair = verdict.paper[1]
    bridge = pair[5]
    return bridge_case(network, pair, bridge[:1])


def bridge_case(network, pair, closed):
    """Return the case of a bridged pair that closes some links.

    One of these must be in the bridge, and none in another part of the pair.
    """
    trap = bridge_trap(pair)
    delays = trap.delays_in(network)
    before = standing_of(network, delays, trap.crowding())
    after = standing_of(network.without(closed), delays, trap.halving())
    return Case(delays, 1, closed, before, after)


def check_swap(network, swap):
    """Return True if the swap is one of the network, and False otherwise."""
    if not check_standing(network, swap.delays, swap.total, swap.before):
        return False
    sharing = swap.sharing
    try:
        loads = loads_of(network, sharing)
    except (BadWay, OutOfRange):
        return False
    if sum(list(sharing.values()), start=Ratio(0)) != swap.total:
        return False
    times = [way_time(swap.delays, loads, way) for way, load in sharing.items() if load.sign > 0]
    return all([time.below(swap.before.times[network.end]) for time in times])


def better(network):
    """Return a swap of the network."""
    verdict = decide(network)
    if verdict.kind == TAIL:
        raise NoHarm(verdict.kind)
    if verdict.kind == BRIDGED:
        trap = bridge_trap(verdict.paper[1])
    else:
        trap = woven_trap(building_of(network))
    delays = trap.delays_in(network)
    before = standing_of(network, delays, trap.crowding())
    return Swap(delays, 1, before, trap.halving())
