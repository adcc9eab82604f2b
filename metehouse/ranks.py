"""Ranks: which form stands where in ascending order, and how far a rule of rank can miss."""

from math import comb

from metehouse.claims import AtMost, Both, Claim, Either
from metehouse.errors import BadLimit, BadNumber, TooWide


def next_choice(choice, size):
    """The next of the ascending lists of as many numbers below the size, or None after the last one."""
    for back in range(1, len(choice) + 1):
        number = choice[-back]
        if number < size - back:
            return [*choice[:-back], *range_from(number + 1, back)]
    return None


def range_from(first, count):
    """The list of so many numbers from the first one on."""
    return list(range(first, first + count))


def choices(size, count):
    """The ascending lists of so many numbers below the size, in ascending order."""
    found = []
    choice = range_from(0, count)
    while choice is not None:
        found.append(choice)
        choice = next_choice(choice, size)
    return found


def ranked_so(forms, index, chosen):
    """The claim that just the chosen forms stand before the one with the index."""
    claims = []
    for other, form in enumerate(forms):
        if other in chosen:
            claims.append(AtMost(form - forms[index]))
        elif other != index:
            claims.append(AtMost(forms[index] - form))
    return Both(*claims)


def ranked(forms, place, index):
    """The claim that the form with this index stands at this place in ascending order."""
    size = len(forms)
    if not 0 <= place < size:
        raise BadNumber(place)
    if not 0 <= index < size:
        raise BadNumber(index)
    width = comb(size - 1, place)
    if width > Claim.MOST_WAYS:
        raise TooWide(width)
    others = [other for other in range(size) if other != index]
    claims = []
    for choice in choices(size - 1, place):
        chosen = {others[number]: True for number in choice}
        claims.append(ranked_so(forms, index, chosen))
    return Either(*claims)


def entry_at(numbers, position):
    """The entry at a position, None behind the last one."""
    return numbers[position] if position < len(numbers) else None


def worst_miss(radii, place, liars):
    """How far the reading at a place in ascending order can lie above the level, and below it."""
    for radius in radii:
        if radius < 0:
            raise BadNumber(radius)
    size = len(radii)
    if not 0 <= place < size:
        raise BadNumber(place)
    if not 0 <= liars <= size:
        raise BadLimit(liars)
    ordered = sorted(radii)
    return (entry_at(ordered, place + liars), entry_at(ordered, size - 1 - place + liars))
