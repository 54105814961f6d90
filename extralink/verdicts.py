"""Verdicts: which of three kinds a network is, with a certificate."""

from extralink.buildings import CHAIN, FORK, LINK, building_of
from extralink.pairs import check_pair, find_pair

TAIL = "tail"
WOVEN = "woven"
BRIDGED = "bridged"


class Verdict:
    """The kind of a network and the paper that certifies it."""

    def __init__(self, paper):
        self.kind = paper[0]
        self.paper = paper

    @property
    def calm(self):
        return self.kind != BRIDGED


def decide(network):
    """Return the verdict of a network."""
    building = building_of(network)
    if building is None:
        return Verdict((BRIDGED, find_pair(network)))
    return Verdict((TAIL if building.tailed else WOVEN, plan_of(building)))


def plan_of(building):
    """Return the plan that describes a building."""
    if building.shape == LINK:
        return (LINK, building.names[0])
    return (building.shape, tuple([plan_of(part) for part in building.parts]))


def check_paper(network, paper):
    """Return True if a paper is a certificate of the network, and False otherwise."""
    kind, told = paper
    if kind == BRIDGED:
        return check_pair(network, told)
    if not is_right(network, told):
        return False
    return kind == (TAIL if is_tailed(told) else WOVEN)


def is_right(network, plan):
    """Return True if the plan is right for the network."""
    if sorted(plan_names(plan)) != list(network.names) or not is_formed(plan):
        return False
    if plan_ends(network, plan) != (network.start, network.end):
        return False
    joints = plan_joints(network, plan)
    return len(joints) == len(set(joints))


def plan_names(plan):
    """Return the names of the links of a plan, each as often as it stands there."""
    shape, told = plan
    if shape == LINK:
        return [told]
    return [name for part in told for name in plan_names(part)]


def is_formed(plan):
    """Return True if all chains and forks of a plan have two parts or more, none of their own shape."""
    shape, told = plan
    if shape == LINK:
        return True
    return len(told) > 1 and all([part[0] != shape and is_formed(part) for part in told])


def is_tailed(plan):
    """Return True if every chain of a plan has at most one part that is not a link."""
    shape, told = plan
    if shape == LINK:
        return True
    if shape == CHAIN and len([part for part in told if part[0] != LINK]) > 1:
        return False
    return all([is_tailed(part) for part in told])


def plan_ends(network, plan):
    """Return the places that a plan with links of the network leads from and to, or None if parts do not meet."""
    shape, told = plan
    if shape == LINK:
        return network[told]
    ends = [plan_ends(network, part) for part in told]
    if None in ends:
        return None
    if shape == FORK:
        return ends[0] if all([pair == ends[0] for pair in ends]) else None
    for one, two in zip(ends, ends[1:]):
        if one[1] != two[0]:
            return None
    return (ends[0][0], ends[-1][1])


def plan_joints(network, plan):
    """Return the joints of the chains of a plan whose parts meet."""
    shape, told = plan
    if shape == LINK:
        return []
    own = [plan_ends(network, part)[0] for part in told[1:]] if shape == CHAIN else []
    return own + [place for part in told for place in plan_joints(network, part)]
