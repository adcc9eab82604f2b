"""Further wells: point 46, compared with a plain search over all choices."""

import random
from itertools import combinations

from metehouse.controls import fewest
from metehouse.errors import NoPlace, NotTold, TooMany
from metehouse.forms import Form
from metehouse.grids import Grid
from metehouse.plates import Plate
from tests.eliminating import change, quantities, told
from tests.helping import Case
from tests.test_plates import some_plate

a, b = Form.one("a"), Form.one("b")


def lines_of(plate, places, form):
    return [plate.grid.total(row, column, form, len(plate) + index) for index, (row, column) in enumerate(places)]


def searched(plate, places, form, targets):
    """The choice of point 46, straight from its words, or None."""
    more = lines_of(plate, places, form)
    for count in range(len(places) + 1):
        for chosen in combinations(range(len(places)), count):
            lines = plate.lines() + [more[index] for index in chosen]
            if all(told(lines, target) for target in targets):
                return chosen
    return None


class TestFewest(Case):
    def test_plain(self):
        grid = Grid("g", 2, 2)
        plate = Plate(grid, [(0, 0, a), (0, 1, a), (1, 0, a)])
        places = [(0, 0), (0, 1), (1, 1), (1, 0)]
        zero = Form()
        self.assertEqual(fewest(plate, places, zero, a), (0,))
        self.assertEqual(fewest(plate, places[1:], zero, a), (0,))
        self.assertEqual(fewest(plate, places, zero, Form.gap("g.r0", "g.r1")), ())
        self.assertEqual(fewest(plate, [(1, 1)], zero, a), (0,))
        self.assertEqual(fewest(Plate(grid, []), places, a, Form.gap("g.r0", "g.r1")), (0, 3))
        self.assertEqual(fewest(Plate(grid, []), places, a, Form.gap("g.r0", "g.r1"), Form.gap("g.c0", "g.c1")),
                         (0, 1, 2))

    def test_without_targets(self):
        plate = Plate(Grid("g", 2, 2), [(0, 0, a)])
        self.assertEqual(fewest(plate, [(0, 0)], a), ())
        self.assertEqual(fewest(plate, [], a), ())
        self.assertEqual(fewest(plate, [], a, plate.lines()[0], Form((), 5)), ())

    def test_times_do_not_depend_on_the_choice(self):
        grid = Grid("g", 1, 1, drift=[("step", 4)])
        plate = Plate(grid, [(0, 0, a), (0, 0, a)])
        self.assertEqual(fewest(plate, [(0, 0)] * 4, a, Form.one("g.d0")), (2,))
        self.assertEqual(fewest(Plate(grid, [(0, 0, a)], times=[9]), [(0, 0)] * 4, a, Form.one("g.d0")), (0,))

    def test_all_places_are_needed(self):
        grid = Grid("g", 8, 1)
        places = [(row, 0) for row in range(8)]
        targets = [Form.gap(f"g.r{row}", f"g.r{row + 1}") for row in range(7)]
        self.assertEqual(fewest(Plate(grid, []), places, a, *targets), tuple(range(8)))

    def test_errors(self):
        plate = Plate(Grid("g", 2, 2), [])
        self.refused(TooMany, fewest, plate, [(5, 5)] * 9, a, b, has={"what": "places", "most": 8})
        self.refused(NoPlace, fewest, plate, [(0, 0), (2, 1), (-1, 0)], a, b, has={"row": 2, "column": 1})
        self.refused(NoPlace, fewest, plate, [(0, -1)], a, has={"row": 0, "column": -1})
        self.assertEqual(fewest(plate, [(0, 0)] * 8, a), ())
        places = [(0, 0), (0, 1)]
        with self.assertRaises(NotTold) as caught:
            fewest(plate, places, a, Form.gap("g.c0", "g.c1"), b, Form.one("c"))
        moves = caught.exception.moves
        lines = lines_of(plate, places, a)
        self.assertEqual(sorted(moves), quantities(*lines, b))
        self.assertEqual([change(line, moves) for line in lines], [0, 0])
        self.assertGreater(change(b, moves), 0)

    def test_nothing_is_modified(self):
        plate, places = Plate(Grid("g", 2, 2), [(0, 0, a)]), [(0, 0), (1, 1)]
        spots = plate.spots
        fewest(plate, places, Form(), a)
        self.assertRaises(NotTold, fewest, plate, places, Form(), b)
        self.assertEqual((places, plate.spots, len(plate)), ([(0, 0), (1, 1)], spots, 1))

    def test_many(self):
        chance = random.Random(46)
        sizes = set()
        for round_ in range(120):
            plate = some_plate(chance, chance.randint(0, 4), chance.choice([(), [("power", 1)], [("step", 3)]]))
            places = [(chance.randrange(plate.grid.rows), chance.randrange(plate.grid.columns))
                      for _ in range(chance.randint(0, 5))]
            form = chance.choice([Form(), a, b])
            lines = plate.lines() + lines_of(plate, places, form)
            targets = [sum([line * chance.choice([0, 0, 1, -1]) for line in lines], Form())
                       for _ in range(chance.randint(0, 2))]
            if chance.random() < 0.2:
                targets.append(a)
            expected = searched(plate, places, form, targets)
            if expected is None:
                self.assertRaises(NotTold, fewest, plate, places, form, *targets)
            else:
                self.assertEqual(fewest(plate, places, form, *targets), expected)
                sizes.add(len(expected))
        self.assertGreaterEqual(sizes, {0, 1, 2, 3})
