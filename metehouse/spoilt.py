"""Spoilt wells: the fewest wells without which the readings of a plate agree."""

from metehouse.cancelling import Echelon, rings
from metehouse.errors import BadLimit
from metehouse.plates import need_readings, weighed_readings
from metehouse.ranks import choices

MOST_SPOILT = 2


def parts_at(rows, index):
    """The numbers at an index of several lists that are not 0, by the places of the lists."""
    return {place: row[index] for place, row in enumerate(rows) if row[index] != 0}


def cured(columns, gaps, chosen):
    """True if other readings of the chosen wells alone would close all gaps."""
    echelon = Echelon()
    for index in chosen:
        echelon.take(columns[index], index)
    left, _ = echelon.freed(gaps, len(columns))
    return len(left) == 0


def spoilt(plate, readings, *, most=1):
    """All sets, as small as possible, of wells without which no ring clashes."""
    need_readings(plate, readings)
    if not 0 <= most <= MOST_SPOILT:
        raise BadLimit(most)
    lines = plate.lines()
    found = list(rings(lines))
    # The readings of the other wells agree exactly if readings of the spoilt ones can be
    # found for which all rings of all wells agree.
    gaps = parts_at([[weighed_readings(lines, readings, ring)] for ring in found], 0)
    columns = [parts_at(found, index) for index in range(len(lines))]
    for count in range(min(most, len(lines)) + 1):
        sets = [tuple(chosen) for chosen in choices(len(lines), count) if cured(columns, gaps, chosen)]
        if sets:
            return sets
    return []
