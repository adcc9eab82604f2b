"""Sets of values asked at the values that matter: each end, between neighbouring ends, and beyond them."""

from fractions import Fraction


def pair(value):
    value = Fraction(value)
    return (value.numerator, value.denominator)


def candidates(ends):
    """The ends, a value between each two neighbours, and values beyond all of them, as ratios."""
    ordered = sorted({Fraction(*end) for end in ends}) or [Fraction(0)]
    found = [ordered[0] - 100, ordered[0] - Fraction(1, 7)]
    for one, two in zip(ordered, ordered[1:]):
        found += [one, (one + two) / 2]
    return [pair(value) for value in found + [ordered[-1], ordered[-1] + Fraction(1, 7), ordered[-1] + 100]]


def ends_of(*sets):
    """The ends of the stretches of all sets."""
    return [end for pieces in sets for low, _, high, _ in pieces for end in (low, high) if end is not None]


def belongs(stretch, value):
    """True if the value belongs to the stretch, straight from what a stretch is."""
    low, low_in, high, high_in = stretch
    number = Fraction(*value)
    if low is not None and (number < Fraction(*low) or number == Fraction(*low) and not low_in):
        return False
    return high is None or number < Fraction(*high) or number == Fraction(*high) and high_in


def faults(parts):
    """What is wrong with a tuple of pieces: not ascending, or more of them than needed."""
    found = []
    for part in parts:
        low, low_in, high, high_in = part
        if type(low_in) is not bool or type(high_in) is not bool:
            found.append(("ends", part))
        if low is None and low_in or high is None and high_in:
            found.append(("no end", part))
        if low is not None and high is not None:
            if Fraction(*low) > Fraction(*high) or low == high and not (low_in and high_in):
                found.append(("empty", part))
    for one, two in zip(parts, parts[1:]):
        if one[2] is None or two[0] is None or Fraction(*one[2]) > Fraction(*two[0]):
            found.append(("order", one, two))
        elif one[2] == two[0] and (one[3] or two[1]):
            found.append(("touching", one, two))
    return found
