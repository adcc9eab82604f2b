"""Plates: wells on a grid in the order of reading, and what their readings tell."""

from metehouse.cancelling import cancel, rings
from metehouse.errors import BadName, BadNumber, Clash, NotTold, NoWell, TooMany
from metehouse.exact import ratio
from metehouse.forms import LETTERS, LONGEST_WORD, is_word
from metehouse.grids import Well

MOST_WELLS = 24


def time_of(given, index):
    """The time of a spot: the one that is given, or its place in the order."""
    return index if given is None else given


class Plate:
    """A row of wells on a grid; it never changes."""

    def __init__(self, grid, spots, *, times=None):
        if len(spots) > MOST_WELLS:
            raise TooMany("wells", MOST_WELLS)
        for row, column, _ in spots:
            grid.need_place(row, column)
        given = [None for _ in spots] if times is None else times
        if len(given) != len(spots):
            raise BadNumber(len(given))
        self.grid = grid
        self.spots = tuple(spots)
        self.times = tuple([time_of(time, index) for index, time in enumerate(given)])

    def lines(self):
        """The totals of the wells."""
        grid = self.grid
        return [grid.total(row, column, form, time) for (row, column, form), time in zip(self.spots, self.times)]

    def wells(self, prefix):
        """The wells, named by the prefix and a letter."""
        if not is_word(prefix) or len(prefix) >= LONGEST_WORD:
            raise BadName(prefix)
        found = []
        for index, (row, column, form) in enumerate(self.spots):
            found.append(Well(prefix + LETTERS[index], self.grid, row, column, form, time=self.times[index]))
        return found

    def without(self, *indexes):
        """The plate without these wells."""
        for index in indexes:
            if not 0 <= index < len(self.spots):
                raise NoWell(index)
        kept = [index for index in range(len(self.spots)) if index not in indexes]
        spots = [self.spots[index] for index in kept]
        return Plate(self.grid, spots, times=[self.times[index] for index in kept])

    def turned(self):
        """The plate turned by half."""
        rows, columns = self.grid.rows, self.grid.columns
        spots = [(rows - 1 - row, columns - 1 - column, form) for row, column, form in self.spots]
        return Plate(self.grid, spots, times=self.times)

    def __len__(self):
        return len(self.spots)


def need_readings(plate, readings):
    """Raise BadNumber if there is not one reading for each well."""
    if len(readings) != len(plate):
        raise BadNumber(len(readings))


def weighed_readings(lines, readings, weights):
    """The sum of the readings without the constants of the lines, each times its weight."""
    return sum([(told - line.constant) * weight for line, told, weight in zip(lines, readings, weights)])


def clash(plate, readings):
    """The first ring that clashes with the readings, or None."""
    need_readings(plate, readings)
    lines = plate.lines()
    for ring in rings(lines):
        if weighed_readings(lines, readings, ring) != 0:
            return ring
    return None


def measure(plate, readings, target):
    """The value of the form in all worlds in which all readings are true."""
    ring = clash(plate, readings)
    if ring is not None:
        raise Clash(ring)
    lines = plate.lines()
    found = cancel(lines, target)
    if found[0] == "shift":
        raise NotTold(found[1])
    _, scale, weights = found
    return ratio(weighed_readings(lines, readings, weights) + target.constant * scale, scale)
