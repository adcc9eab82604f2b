"""Nets: bounds of levels and of differences of levels, and what they say together."""

from metehouse.claims import AtMost, Below
from metehouse.errors import BadName, BadNumber, BadSign, NoNet, NoQuantity, Taken
from metehouse.exact import ratio
from metehouse.forms import Form, is_quantity, is_word

SIGNS = ("<=", "<")
MOST_LEVELS = 20


def check_limit(first, second, sign):
    """Raise the error of a limit, if it has one."""
    for name in (first, second):
        if name is not None and not is_quantity(name):
            raise BadName(name)
    if first == second:
        raise Taken(second)
    if sign not in SIGNS:
        raise BadSign(sign)


def least_sums(limits, starts, rounds):
    """The least sums of chains from the starts, the last limit of each, and the limit that lowered a sum last.

    A sum is a pair: the sum of the integers, and minus the number of the limits with "<".
    The last limit is None once the sums have come to rest within so many rounds.
    """
    sums = {}
    for start in starts:
        sums[start] = (0, 0)
    via = {}
    last = None
    for _ in range(rounds):
        last = None
        for index, (first, second, most, sign) in enumerate(limits):
            if first in sums:
                found = (sums[first][0] + most, sums[first][1] - (1 if sign == "<" else 0))
                if second not in sums or found < sums[second]:
                    sums[second] = found
                    via[second] = index
                    last = index
        if last is None:
            break
    return sums, via, last


def chain_to(limits, via, start, end):
    """The chain that leads back from the end to the start."""
    backwards = []
    name = end
    while len(backwards) == 0 or name != start:
        backwards.append(via[name])
        name = limits[via[name]][0]
    return backwards[::-1]


def gap_form(first, second):
    """The level of the second one minus that of the first one; the ground is left out."""
    terms = []
    if first is not None:
        terms.append((first, -1))
    if second is not None:
        terms.append((second, 1))
    return Form(terms)


class Net:
    """Limits of levels and of differences of levels; it never changes."""

    def __init__(self, limits=()):
        found = []
        for first, second, most, sign in limits:
            check_limit(first, second, sign)
            found.append((first, second, most, sign))
        self.limits = tuple(found)

    @staticmethod
    def box(name, low, high):
        """The net that keeps a level between two integers; None is no end."""
        limits = []
        if high is not None:
            limits.append((None, name, high, "<="))
        if low is not None:
            limits.append((name, None, -low, "<="))
        return Net(limits)

    @staticmethod
    def fence(word, count, pace):
        """The net of several levels of which neighbouring ones differ by at most the pace."""
        if not is_word(word):
            raise BadName(word)
        if not 1 <= count <= MOST_LEVELS:
            raise BadNumber(count)
        if pace < 0:
            raise BadNumber(pace)
        limits = []
        for number in range(count - 1):
            here, ahead = f"{word}.{number}", f"{word}.{number + 1}"
            limits.append((here, ahead, pace, "<="))
            limits.append((ahead, here, pace, "<="))
        return Net(limits)

    def names(self):
        """The quantities, ascending."""
        found = {}
        for first, second, _, _ in self.limits:
            found[first] = True
            found[second] = True
        return sorted([name for name in list(found) if name is not None])

    def claims(self):
        """The claims of the limits, in order."""
        found = []
        for first, second, most, sign in self.limits:
            form = gap_form(first, second)
            found.append(AtMost(form, most) if sign == "<=" else Below(form, most))
        return found

    def find_ring(self):
        """A ring, or None."""
        spots = [None, *self.names()]
        _, via, last = least_sums(self.limits, spots, len(spots))
        if last is None:
            return None
        # Going back as often as there are spots leads into the ring, wherever it begins.
        name = self.limits[last][1]
        for _ in spots:
            name = self.limits[via[name]][0]
        return chain_to(self.limits, via, name, name)

    def sums_from(self, first, second):
        """The least sums of chains from the first one, and the last limit of each."""
        names = self.names()
        for name in (first, second):
            if name is not None and name not in names:
                raise NoQuantity(name)
        ring = self.find_ring()
        if ring is not None:
            raise NoNet(ring)
        sums, via, _ = least_sums(self.limits, [first], len(names) + 1)
        return sums, via

    def bound(self, first, second):
        """The tightest sum of a chain, or None."""
        sums, _ = self.sums_from(first, second)
        if second not in sums:
            return None
        most, strict = sums[second]
        return (most, "<" if strict < 0 else "<=")

    def chain(self, first, second):
        """A chain with the tightest sum, or None."""
        sums, via = self.sums_from(first, second)
        if second not in sums:
            return None
        return [] if first == second else chain_to(self.limits, via, first, second)

    def levels(self):
        """A world in which all claims hold."""
        ring = self.find_ring()
        if ring is not None:
            raise NoNet(ring)
        spots = [None, *self.names()]
        sums, _, _ = least_sums(self.limits, spots, len(spots))
        # A sum has fewer limits with "<" than there are spots, so the parts of 1 that stand
        # for them stay below 1 together, and the integers leave room for them.
        share = len(spots)
        low, strict = sums[None]
        return {name: ratio((sums[name][0] - low) * share + sums[name][1] - strict, share) for name in spots[1:]}

    def __add__(self, other):
        if not isinstance(other, Net):
            return NotImplemented
        return Net(self.limits + other.limits)

    def __eq__(self, other):
        return isinstance(other, Net) and self.limits == other.limits


class WideNet(Net):
    """A net that has further quantities, which no limit bounds."""

    def __init__(self, limits, labels):
        super().__init__(limits)
        self.labels = tuple(labels)

    def names(self):
        """The quantities, ascending, those without limits too."""
        return list(self.labels)
