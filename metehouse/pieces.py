"""Sets of values: stretches between ends, as few as possible."""

from metehouse.claims import AtMost, Below, Both, Either
from metehouse.errors import BadLimit, BadNumber, BadStretch, NoValue
from metehouse.exact import compare, plus, ratio, times

# A cut is a triple (reach, value, side): a place just before a value (side 0) or just
# behind it (side 1). The reach is -1 below all values, 1 above them, otherwise 0. A stretch
# lies between two cuts, whatever belongs to it at its ends.
BOTTOM = (-1, (0, 1), 0)
TOP = (1, (0, 1), 0)


def compare_cuts(first, second):
    """-1, 0 or 1 if the first cut is below, at or above the second one."""
    if first[0] != second[0]:
        return -1 if first[0] < second[0] else 1
    found = compare(first[1], second[1])
    if found != 0 or first[2] == second[2]:
        return found
    return -1 if first[2] < second[2] else 1


def low_cut(stretch):
    """The cut at which a stretch begins."""
    low, low_in, _, _ = stretch
    if low is None:
        return BOTTOM
    return (0, low, 0 if low_in else 1)


def high_cut(stretch):
    """The cut at which a stretch ends."""
    _, _, high, high_in = stretch
    if high is None:
        return TOP
    return (0, high, 1 if high_in else 0)


def stretch_between(first, second):
    """The stretch between two cuts."""
    low = None if first[0] != 0 else first[1]
    high = None if second[0] != 0 else second[1]
    return (low, low is not None and first[2] == 0, high, high is not None and second[2] == 1)


def check_stretch(stretch):
    """Raise BadStretch if the stretch has no value or an end that cannot belong to it."""
    low, low_in, high, high_in = stretch
    if low is None and low_in or high is None and high_in:
        raise BadStretch(stretch)
    if compare_cuts(low_cut(stretch), high_cut(stretch)) >= 0:
        raise BadStretch(stretch)


def merged(left, right):
    """Two ascending lists of pairs (cut, step) as one."""
    found = []
    at = 0
    behind = 0
    while at < len(left) and behind < len(right):
        if compare_cuts(left[at][0], right[behind][0]) <= 0:
            found.append(left[at])
            at += 1
        else:
            found.append(right[behind])
            behind += 1
    return found + left[at:] + right[behind:]


def ascending(steps):
    """A list of pairs (cut, step) in ascending order of the cuts."""
    if len(steps) < 2:
        return steps
    middle = len(steps) // 2
    return merged(ascending(steps[:middle]), ascending(steps[middle:]))


def depths(stretches):
    """The cuts at which the number of stretches changes: pairs (cut, number above it), ascending."""
    steps = [(low_cut(stretch), 1) for stretch in stretches]
    steps = ascending(steps + [(high_cut(stretch), -1) for stretch in stretches])
    found = []
    depth = 0
    for index, (cut, step) in enumerate(steps):
        depth = depth + step
        last = index + 1 == len(steps)
        if last or compare_cuts(cut, steps[index + 1][0]) != 0:
            found.append((cut, depth))
    return found


def covered(stretches, need):
    """The pieces, ascending, of the values that at least so many stretches have; one at least."""
    found = []
    start = None
    for cut, depth in depths(stretches):
        if depth >= need and start is None:
            start = cut
        elif depth < need and start is not None:
            found.append(stretch_between(start, cut))
            start = None
    return tuple(found)


def uncovered(parts):
    """The pieces of the values that none of the pieces has."""
    found = []
    start = BOTTOM
    for part in parts:
        if compare_cuts(start, low_cut(part)) < 0:
            found.append(stretch_between(start, low_cut(part)))
        start = high_cut(part)
    if compare_cuts(start, TOP) < 0:
        found.append(stretch_between(start, TOP))
    return tuple(found)


def in_both(first, second):
    """The pieces of the values that both lists of pieces have."""
    return covered([*first, *second], 2)


def has_value(part, value):
    """True if the value belongs to the stretch."""
    before, behind = (0, value, 0), (0, value, 1)
    return compare_cuts(low_cut(part), before) <= 0 and compare_cuts(behind, high_cut(part)) <= 0


def write_ratio(value):
    """A ratio as it is written: the bottom is left out if it is 1."""
    top, bottom = value
    return str(top) if bottom == 1 else f"{top}/{bottom}"


def write_piece(part):
    """A stretch as it is written."""
    low, low_in, high, high_in = part
    start = "[" if low_in else "("
    end = "]" if high_in else ")"
    low_text = ".." if low is None else write_ratio(low)
    high_text = ".." if high is None else write_ratio(high)
    return f"{start}{low_text}, {high_text}{end}"


def write_pieces(parts):
    """The stretches as they are written together."""
    if len(parts) == 0:
        return "none"
    return " ".join([write_piece(part) for part in parts])


def end_claim(form, closed):
    """The claim that the form is at most 0, or less if the end does not belong to its piece."""
    return AtMost(form) if closed else Below(form)


def piece_claim(part, form):
    """The claim that the value of the form belongs to the stretch."""
    low, low_in, high, high_in = part
    claims = []
    if low is not None:
        claims.append(end_claim(low[0] - low[1] * form, low_in))
    if high is not None:
        claims.append(end_claim(high[1] * form - high[0], high_in))
    return Both(*claims)


def value_in(part):
    """A value of the stretch."""
    low, low_in, high, high_in = part
    if low_in:
        return low
    if high_in:
        return high
    if low is None:
        return (0, 1) if high is None else plus(high, (-1, 1))
    return plus(low, (1, 1)) if high is None else times(plus(low, high), (1, 2))


class Pieces:
    """A set of values; it never changes."""

    def __init__(self, *stretches):
        for stretch in stretches:
            check_stretch(stretch)
        self.parts = covered(stretches, 1)

    @staticmethod
    def none():
        """The empty set."""
        return Pieces()

    @staticmethod
    def every():
        """The set of all values."""
        return Pieces((None, False, None, False))

    @staticmethod
    def point(value):
        """The set of one ratio."""
        return Pieces((value, True, value, True))

    @staticmethod
    def between(low, high):
        """The set of the values between two integers, ends included."""
        return Pieces((ratio(low), True, ratio(high), True))

    def claim(self, form):
        """The claim that the value of the form belongs to the set."""
        claims = [piece_claim(part, form) for part in self.parts]
        return Either(*claims)

    def inside(self, other):
        """True if all values of this set are in the other one."""
        return len(in_both(self.parts, uncovered(other.parts))) == 0

    def grown(self, below, above):
        """The set of all sums of a value of the set and a value from -below to above."""
        if below < 0:
            raise BadNumber(below)
        if above < 0:
            raise BadNumber(above)
        wider = []
        for low, low_in, high, high_in in self.parts:
            start = None if low is None else plus(low, (-below, 1))
            end = None if high is None else plus(high, (above, 1))
            wider.append((start, low_in, end, high_in))
        return Pieces(*wider)

    def some(self):
        """A value of the set."""
        if len(self.parts) == 0:
            raise NoValue()
        return value_in(self.parts[0])

    def __and__(self, other):
        found = in_both(self.parts, other.parts)
        return Pieces(*found)

    def __or__(self, other):
        found = [*self.parts, *other.parts]
        return Pieces(*found)

    def __sub__(self, other):
        found = in_both(self.parts, uncovered(other.parts))
        return Pieces(*found)

    def __invert__(self):
        found = uncovered(self.parts)
        return Pieces(*found)

    def __eq__(self, other):
        return isinstance(other, Pieces) and self.parts == other.parts

    def __contains__(self, value):
        return any([has_value(part, value) for part in self.parts])

    def __iter__(self):
        return iter(self.parts)

    def __len__(self):
        return len(self.parts)

    def __bool__(self):
        return bool(self.parts)

    def __str__(self):
        return str(write_pieces(self.parts))


def shared(lots, most):
    """The set of the values that are missing in at most so many of the sets."""
    if most < 0:
        raise BadLimit(most)
    if most >= len(lots):
        return Pieces.every()
    stretches = [part for lot in lots for part in lot.parts]
    found = covered(stretches, len(lots) - most)
    return Pieces(*found)


def fewest_missing(lots):
    """The least number of the sets in which a value is missing."""
    stretches = [part for lot in lots for part in lot.parts]
    return len(lots) - max([depth for _, depth in depths(stretches)], default=0)
