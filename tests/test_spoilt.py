"""Spoilt wells: point 43, compared with a plain search over all sets of wells."""

import random
from itertools import combinations

from metehouse.errors import BadLimit, BadNumber
from metehouse.forms import Form
from metehouse.grids import Grid
from metehouse.plates import Plate, clash
from metehouse.spoilt import spoilt
from tests.eliminating import quantities
from tests.helping import Case
from tests.test_plates import some_plate

a, b = Form.one("a"), Form.one("b")


def searched(plate, readings, most):
    """The sets of point 43, straight from its words."""
    for count in range(most + 1):
        found = []
        for chosen in combinations(range(len(plate)), count):
            rest = [told for index, told in enumerate(readings) if index not in chosen]
            if clash(plate.without(*chosen), rest) is None:
                found.append(chosen)
        if found:
            return found
    return []


class TestSpoilt(Case):
    def test_plain(self):
        plate = Plate(Grid("g", 1, 1), [(0, 0, a)] * 4)
        self.assertEqual(spoilt(plate, [5, 5, 5, 5]), [()])
        self.assertEqual(spoilt(plate, [5, 5, 9, 5]), [(2,)])
        self.assertEqual(spoilt(plate, [5, 5, 9, 8]), [])
        self.assertEqual(spoilt(plate, [5, 5, 9, 8], most=2), [(2, 3)])
        self.assertEqual(spoilt(plate, [5, 5, 9, 9], most=2), [(0, 1), (2, 3)])
        self.assertEqual(spoilt(plate, [5, 6, 7, 8], most=2), [])
        self.assertEqual(spoilt(plate, [5, 5, 9, 5], most=0), [])
        self.assertEqual(spoilt(plate, [5, 5, 9, 5], most=2), [(2,)])

    def test_edges(self):
        grid = Grid("g", 1, 1)
        self.assertEqual(spoilt(Plate(grid, []), []), [()])
        self.assertEqual(spoilt(Plate(grid, []), [], most=2), [()])
        self.assertEqual(spoilt(Plate(grid, [(0, 0, a)]), [4], most=0), [()])
        self.assertEqual(spoilt(Plate(grid, [(0, 0, a), (0, 0, a)]), [4, 5]), [(0,), (1,)])
        self.assertEqual(spoilt(Plate(grid, [(0, 0, a), (0, 0, a)]), [4, 5], most=0), [])

    def test_errors(self):
        plate = Plate(Grid("g", 1, 1), [(0, 0, a), (0, 0, a)])
        self.refused(BadNumber, spoilt, plate, [1], most=3, has={"number": 1})
        self.refused(BadNumber, spoilt, plate, [1, 2, 3], has={"number": 3})
        for most in (-1, 3, 10 ** 29):
            self.refused(BadLimit, spoilt, plate, [1, 1], most=most, has={"limit": most})

    def test_many(self):
        chance = random.Random(43)
        lengths = set()
        for round_ in range(150):
            plate = some_plate(chance, chance.randint(0, 8), chance.choice([(), (), [("power", 1)]]))
            lines = plate.lines()
            world = {name: (chance.randint(-9, 9), 1) for name in quantities(*lines)}
            readings = [line(world)[0] for line in lines]
            for _ in range(chance.randint(0, 3)):
                if readings:
                    readings[chance.randrange(len(readings))] += chance.randint(-2, 2)
            for most in range(3):
                found = spoilt(plate, readings, most=most)
                self.assertEqual(found, searched(plate, readings, most))
                lengths.add(len(found[0]) if found else None)
        self.assertEqual(lengths, {0, 1, 2, None})

    def test_nothing_is_modified_or_shared(self):
        plate, readings = Plate(Grid("g", 1, 1), [(0, 0, a)] * 3), [5, 5, 9]
        spoilt(plate, readings).clear()
        self.assertEqual((spoilt(plate, readings), readings), ([(2,)], [5, 5, 9]))

    def test_a_full_plate(self):
        spots = [(index // 4, index % 4, a) for index in range(24)]
        plate = Plate(Grid("g", 6, 4), spots)
        readings = [index // 4 * 10 + index % 4 for index in range(24)]
        self.assertEqual(spoilt(plate, readings, most=2), [()])
        readings[7] += 1
        readings[17] -= 3
        self.assertEqual(spoilt(plate, readings, most=2), [(7, 17)])
