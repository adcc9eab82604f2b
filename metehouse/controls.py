"""Controls: the fewest further wells with which a plate tells what is asked."""

from metehouse.cancelling import Echelon, cancel, echelon_of
from metehouse.errors import NotTold, TooMany
from metehouse.ranks import choices

MOST_PLACES = 8


def lines_at(plate, places, form):
    """The lines of the further wells; each has its own time, whatever is chosen."""
    lines = []
    for index, (row, column) in enumerate(places):
        lines.append(plate.grid.total(row, column, form, len(plate) + index))
    return lines


def left_over(echelon, forms):
    """What is left of each form once the echelon has freed it."""
    return [echelon.freed(dict(form.terms), -1)[0] for form in forms]


def all_told(lines, targets):
    """True if the lines, dicts of weights, tell all targets, too."""
    echelon = Echelon()
    for index, line in enumerate(lines):
        echelon.take(line, index)
    return all([len(echelon.freed(target, -1)[0]) == 0 for target in targets])


def fewest(plate, places, form, *targets):
    """The smallest choice of places whose wells, with the plate, tell all targets."""
    if len(places) > MOST_PLACES:
        raise TooMany("places", MOST_PLACES)
    lines = plate.lines()
    more = lines_at(plate, places, form)
    for target in targets:
        found = cancel(lines + more, target)
        if found[0] == "shift":
            raise NotTold(found[1])
    # What the plate tells is taken out once, so that each choice needs little work.
    echelon = echelon_of(lines)
    offers, wanted = left_over(echelon, more), left_over(echelon, targets)
    for count in range(len(places)):
        for chosen in choices(len(places), count):
            if all_told([offers[index] for index in chosen], wanted):
                return tuple(chosen)
    return tuple(range(len(places)))
