"""Plates: points 41 and 42, and the totals of points 36 to 38."""

import random
from fractions import Fraction

from metehouse.cancelling import rings
from metehouse.errors import BadName, BadNumber, Clash, NoPlace, NotTold, NoWell, TooMany
from metehouse.forms import Form
from metehouse.grids import Grid, Well
from metehouse.plates import Plate, clash, measure
from tests.eliminating import change, quantities
from tests.helping import Case

a, b = Form.one("a"), Form.one("b")
GRID = Grid("g", 3, 4)
LETTERS = "abcdefghijklmnopqrstuvwx"


def some_plate(chance, count, drift=()):
    grid = Grid("p", chance.randint(1, 4), chance.randint(1, 4), drift=drift)
    spots = []
    for _ in range(count):
        form = chance.choice([a, b, a - b, Form((), 3), a + 5])
        spots.append((chance.randrange(grid.rows), chance.randrange(grid.columns), form))
    return Plate(grid, spots)


class TestPlate(Case):
    def test_attributes(self):
        spots = [(0, 1, a), (2, 3, b), (0, 1, a)]
        plate = Plate(GRID, spots)
        self.assertEqual((plate.grid, plate.spots, plate.times), (GRID, tuple(spots), (0, 1, 2)))
        self.assertKind(plate.spots, tuple)
        self.assertEqual(Plate(GRID, spots, times=None).times, (0, 1, 2))
        times = [7, 0, 7]
        timed = Plate(GRID, tuple(spots), times=times)
        self.assertEqual(timed.times, (7, 0, 7))
        spots.clear()
        times.clear()
        self.assertEqual((len(plate), len(timed), timed.times), (3, 3, (7, 0, 7)))
        self.assertEqual(len(Plate(GRID, [])), 0)

    def test_times_that_are_left_out(self):
        self.assertEqual(Plate(GRID, [(0, 0, a)] * 3, times=[4, None, None]).times, (4, 1, 2))
        self.assertEqual(Plate(GRID, [], times=[]).times, ())

    def test_errors(self):
        good, off = (0, 0, a), (3, 0, a)
        self.refused(TooMany, Plate, GRID, [off] * 25, times=[], has={"what": "wells", "most": 24})
        self.refused(NoPlace, Plate, GRID, [good, (0, 4, a), off], times=[], has={"row": 0, "column": 4})
        self.refused(NoPlace, Plate, GRID, [(-1, 0, a)], has={"row": -1, "column": 0})
        self.refused(BadNumber, Plate, GRID, [good, good], times=[1], has={"number": 1})
        self.refused(BadNumber, Plate, GRID, [good], times=[1, 2], has={"number": 2})
        self.refused(BadNumber, Plate, GRID, [good], times=[], has={"number": 0})
        self.assertEqual(len(Plate(GRID, [good] * 24)), 24)

    def test_lines(self):
        grid = Grid("g", 3, 4, drift=[("power", 2), ("step", 5), ("cycle", 3)])
        plate = Plate(grid, [(0, 1, a + 2), (2, 3, b)], times=[5, 4])
        self.assertEqual([str(line) for line in plate.lines()],
                         ["a + g.c1 + 25 g.d0 + g.d1 + 2 g.d2 + g.r0 + 2", "b + g.c3 + 16 g.d0 + g.d2 + g.r2"])
        self.assertEqual(Plate(grid, []).lines(), [])
        plate.lines().clear()
        self.assertEqual(len(plate.lines()), 2)

    def test_lines_at_the_indexes_as_times(self):
        grid = Grid("g", 3, 4, drift=[("power", 1)])
        plate = Plate(grid, [(0, 0, a)] * 4)
        self.assertEqual([line["g.d0"] for line in plate.lines()], [0, 1, 2, 3])

    def test_wells(self):
        grid = Grid("g", 3, 4, drift=[("power", 1)])
        plate = Plate(grid, [(0, 0, a)] * 24)
        wells = plate.wells("abcdefg")
        self.assertEqual([well.name for well in wells], ["abcdefg" + letter for letter in LETTERS])
        self.assertEqual([str(well) for well in Plate(grid, [(2, 1, b), (0, 3, a)], times=[9, 3]).wells("w")],
                         ["well wa g 3 4 2 1 9 power 1 : b", "well wb g 3 4 0 3 3 power 1 : a"])
        for well, line in zip(wells, plate.lines()):
            self.assertKind(well, Well)
            self.assertEqual(str(well.says(4)), f"{line - 4} = 0")
        wells.clear()
        self.assertEqual(len(plate.wells("x")), 24)
        for prefix in ("abcdefgh", "", "A", "a1", "a.b", None, 3):
            self.refused(BadName, plate.wells, prefix, has={"name": prefix})
            self.refused(BadName, Plate(grid, []).wells, prefix, has={"name": prefix})
        self.assertEqual(Plate(grid, []).wells("w"), [])

    def test_without(self):
        plate = Plate(GRID, [(0, 0, a), (1, 1, b), (2, 2, a), (0, 3, b)], times=[9, 8, 7, 6])
        less = plate.without(2, 0, 2)
        self.assertEqual((less.grid, less.spots, less.times), (GRID, ((1, 1, b), (0, 3, b)), (8, 6)))
        same = plate.without()
        self.assertEqual((same.spots, same.times), (plate.spots, plate.times))
        self.assertEqual(len(plate.without(0, 1, 2, 3)), 0)
        self.assertEqual(Plate(GRID, plate.spots).without(0).times, (1, 2, 3))
        self.assertEqual(len(plate), 4)
        self.refused(NoWell, plate.without, 1, 4, -1, has={"index": 4})
        self.refused(NoWell, plate.without, 1, -1, 4, has={"index": -1})
        self.refused(NoWell, Plate(GRID, []).without, 0, has={"index": 0})

    def test_turned(self):
        plate = Plate(GRID, [(0, 0, a), (1, 3, b)], times=[5, 2])
        turned = plate.turned()
        self.assertEqual((turned.grid, turned.spots, turned.times), (GRID, ((2, 3, a), (1, 0, b)), (5, 2)))
        twice = turned.turned()
        self.assertEqual((twice.spots, twice.times), (plate.spots, plate.times))
        self.assertEqual(len(Plate(GRID, []).turned()), 0)


class TestReadings(Case):
    def test_clash(self):
        plate = Plate(GRID, [(0, 0, a), (0, 1, a), (1, 0, a), (1, 1, a), (1, 1, a + 2)])
        self.assertEqual(list(rings(plate.lines())), [[1, -1, -1, 1, 0], [1, -1, -1, 0, 1]])
        self.assertIsNone(clash(plate, [5, 7, 4, 6, 8]))
        self.assertEqual(clash(plate, [5, 7, 4, 5, 8]), [1, -1, -1, 1, 0])
        self.assertEqual(clash(plate, [5, 7, 4, 6, 9]), [1, -1, -1, 0, 1])
        self.assertIsNone(clash(Plate(GRID, []), []))
        self.assertEqual(clash(Plate(Grid("g", 1, 1), [(0, 0, a)] * 2), [4, 5]), [-1, 1])

    def test_numbers_of_readings(self):
        plate = Plate(GRID, [(0, 0, a), (0, 0, b)])
        for readings in ([], [1], [1, 2, 3]):
            self.refused(BadNumber, clash, plate, readings, has={"number": len(readings)})
            self.refused(BadNumber, measure, plate, readings, a, has={"number": len(readings)})

    def test_measure(self):
        plate = Plate(Grid("g", 1, 1), [(0, 0, a + 1), (0, 0, 3 * a - 2), (0, 0, b)])
        self.assertEqual(measure(plate, [6, 10, 1], a), (7, 2))
        self.assertEqual(measure(plate, [6, 10, 1], b - a + 5), (1, 1))
        self.assertEqual(measure(plate, [6, 10, 1], Form((), 9)), (9, 1))
        self.assertEqual(measure(plate.without(0, 1, 2), [], Form((), -3)), (-3, 1))

    def test_measure_errors(self):
        plate = Plate(Grid("g", 1, 1), [(0, 0, a), (0, 0, a), (0, 0, b)])
        self.refused(Clash, measure, plate, [4, 5, 1], Form.one("z"), has={"ring": [-1, 1, 0]})
        with self.assertRaises(NotTold) as caught:
            measure(plate, [4, 4, 1], a + Form.one("z"))
        moves = caught.exception.moves
        self.assertEqual(sorted(moves), ["a", "b", "g.c0", "g.r0", "z"])
        self.assertEqual([change(line, moves) for line in plate.lines()], [0, 0, 0])
        self.assertGreater(change(a + Form.one("z"), moves), 0)

    def test_many(self):
        chance = random.Random(42)
        for round_ in range(100):
            plate = some_plate(chance, chance.randint(0, 8), chance.choice([(), [("power", 1)], [("cycle", 2)]]))
            lines = plate.lines()
            world = {name: (chance.randint(-9, 9), 1) for name in quantities(*lines, a, b)}
            readings = [line(world)[0] for line in lines]
            self.assertIsNone(clash(plate, readings))
            target = sum([line * chance.randint(-2, 2) for line in lines], Form((), 4))
            self.assertEqual(measure(plate, readings, target), target(world))
            if not readings:
                continue
            wrong = chance.randrange(len(readings))
            readings[wrong] += 1
            before = list(readings)
            clashing = [ring for ring in rings(lines) if sum(
                weight * (told - line.constant) for weight, told, line in zip(ring, readings, lines)) != 0]
            self.assertEqual(clash(plate, readings), clashing[0] if clashing else None)
            if clashing:
                self.refused(Clash, measure, plate, readings, a, has={"ring": clashing[0]})
            self.assertEqual(readings, before)

    def test_a_measure_is_a_ratio_in_lowest_terms(self):
        plate = Plate(Grid("g", 1, 2), [(0, 0, 6 * a), (0, 1, 2 * a), (0, 0, 2 * a)])
        value = measure(plate, [10, 0, 4], a)
        self.assertEqual(value, (3, 2))
        self.assertEqual(Fraction(*value), Fraction(3, 2))
