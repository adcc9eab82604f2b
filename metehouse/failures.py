"""How claims and instruments fail: what must hold for that, as problems have it."""

from metehouse.claims import Claim, Either, joined


def failures(claim):
    """Several cases in one of which the claim fails: lists of demands, each the list of its ways.

    The ways of failing can be too many to be listed; the cases are few.
    """
    if claim.failing <= Claim.MOST_WAYS:
        return [[claim.against()]]
    if isinstance(claim, Either):
        return joined([failures(part) for part in claim.parts])
    # Only one more kind of claim can fail in so many ways: Both, one part of which must fail.
    plain, cases = [], []
    for part in claim.parts:
        if part.failing <= Claim.MOST_WAYS:
            plain.extend(part.against())
        else:
            cases.extend(failures(part))
    return cases if len(plain) == 0 else [*cases, [plain]]


def failing_ways(house, name):
    """The ways in which an instrument lies: one of its readings is false in one of its ways."""
    instrument = house.instrument(name)
    found = []
    for told in house.readings(name):
        found.extend(instrument.says(told).against())
    return found
