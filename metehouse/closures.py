"""Closures: what a net says, however it is said."""

from metehouse.errors import NoNet
from metehouse.exact import compare, plus, ratio
from metehouse.nets import Net, WideNet
from metehouse.pieces import Pieces


def tighter(first, second):
    """True if the first bound, a pair of an integer and a sign, is tighter than the second one."""
    if first[0] != second[0]:
        return first[0] < second[0]
    return first[1] == "<" and second[1] == "<="


def one_behind_another(first, second):
    """The bound that two bounds give, one behind the other."""
    sign = "<" if first[1] == "<" or second[1] == "<" else "<="
    return (first[0] + second[0], sign)


def tightest(limits, spots):
    """The tightest bounds of all pairs of different spots that have one, without rings."""
    found = {}
    for first, second, most, sign in limits:
        if (first, second) not in found or tighter((most, sign), found[(first, second)]):
            found[(first, second)] = (most, sign)
    for middle in spots:
        ahead = [(end, found[(middle, end)]) for end in spots if (middle, end) in found]
        for start in spots:
            if (start, middle) in found:
                there = found[(start, middle)]
                for end, rest in ahead:
                    bound = one_behind_another(there, rest)
                    if start != end and ((start, end) not in found or tighter(bound, found[(start, end)])):
                        found[(start, end)] = bound
    return found


def union_of(first, second):
    """Two lists of names as one, ascending, each name once."""
    found = {name: True for name in [*first, *second]}
    return sorted(list(found))


class Closure:
    """All bounds that a net has; it never changes."""

    def __init__(self, net):
        ring = net.find_ring()
        if ring is not None:
            raise NoNet(ring)
        self.labels = tuple(net.names())
        self.known = tightest(net.limits, [None, *self.labels])

    def names(self):
        """The quantities, ascending."""
        return list(self.labels)

    def bound(self, first, second):
        """The tightest bound of a difference, or None."""
        return (0, "<=") if first == second else self.known.get((first, second))

    def room(self, name):
        """The set of the levels of a quantity."""
        return self.apart(None, name)

    def apart(self, first, second):
        """The set of the levels of the second quantity minus the first one."""
        above, below = self.bound(first, second), self.bound(second, first)
        low = None if below is None else ratio(-below[0])
        high = None if above is None else ratio(above[0])
        return Pieces((low, below is not None and below[1] == "<=", high, above is not None and above[1] == "<="))

    def net(self):
        """The net of all bounds."""
        spots = [None, *self.labels]
        pairs = [(first, second) for first in spots for second in spots if (first, second) in self.known]
        return Net([(*pair, *self.known[pair]) for pair in pairs])

    def inside(self, other):
        """True if each bound is as tight as that of the other closure."""
        for pair, bound in other.known.items():
            if pair not in self.known or tighter(bound, self.known[pair]):
                return False
        return True

    def __contains__(self, world):
        for name in self.labels:
            if name not in world:
                return False
        for (first, second), (most, sign) in self.known.items():
            top, bottom = (0, 1) if first is None else world[first]
            gap = plus((0, 1) if second is None else world[second], (-top, bottom))
            order = compare(gap, (most, 1))
            if order > 0 or order == 0 and sign == "<":
                return False
        return True

    def __and__(self, other):
        joint = self.net() + other.net()
        return Closure(WideNet(joint.limits, union_of(self.labels, other.labels)))

    def __or__(self, other):
        limits = []
        for (first, second), bound in self.known.items():
            if (first, second) in other.known:
                more = other.known[(first, second)]
                looser = more if tighter(bound, more) else bound
                limits.append((first, second, *looser))
        return Closure(WideNet(limits, union_of(self.labels, other.labels)))

    def __eq__(self, other):
        return isinstance(other, Closure) and self.inside(other) and other.inside(self)
