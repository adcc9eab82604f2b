"""Chords: claims about the order of forms and about their distances."""

from metehouse.claims import Below, Both, Either, Same


def between(f, g, h):
    """The second form lies strictly between the other ones."""
    rising = Both(Below(f - g), Below(g - h))
    falling = Both(Below(h - g), Below(g - f))
    return Either(rising, falling)


def highest(f, *others):
    """The first form is greater than each of the others."""
    claims = [Below(other - f) for other in others]
    return Both(*claims)


def as_often(f, g, h, k):
    """The first two forms are as far from each other as the last two."""
    p, q = f - g, h - k
    return Either(Same(p - q), Same(p + q))


def more_often(f, g, h, k):
    """The first two forms are farther from each other than the last two."""
    p, q = f - g, h - k
    rising = Both(Below(q - p), Below(-q - p))
    falling = Both(Below(q + p), Below(p - q))
    return Either(rising, falling)
