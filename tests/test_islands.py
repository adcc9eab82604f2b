"""Islands: point 44."""

import random

from metehouse.cancelling import cancel
from metehouse.forms import Form
from metehouse.grids import Grid
from metehouse.islands import islands
from metehouse.plates import Plate
from tests.helping import Case

a, b = Form.one("a"), Form.one("b")


def flooded(plate, form):
    """The islands, found by going along the ties from each row and column."""
    grid = plate.grid
    ties = [(("row", row), ("column", column)) for row, column, own in plate.spots if own == form]
    seen, found = set(), []
    places = [("row", k) for k in range(grid.rows)] + [("column", k) for k in range(grid.columns)]
    for place in places:
        if place in seen:
            continue
        island, todo = {place}, [place]
        while todo:
            now = todo.pop()
            for one, two in ties + [(two, one) for one, two in ties]:
                if one == now and two not in island:
                    island.add(two)
                    todo.append(two)
        seen |= island
        found.append(tuple(tuple(sorted(k for word, k in island if word == kind)) for kind in ("row", "column")))
    return found


class TestIslands(Case):
    def test_plain(self):
        plate = Plate(Grid("g", 4, 4), [(0, 2, a), (3, 2, a), (1, 0, a), (2, 1, b), (1, 1, a + 1)])
        self.assertEqual(islands(plate, a), [((0, 3), (2,)), ((1,), (0,)), ((2,), ()), ((), (1,)), ((), (3,))])
        self.assertEqual(islands(plate, b)[2], ((2,), (1,)))

    def test_edges(self):
        grid = Grid("g", 2, 3)
        alone = [((0,), ()), ((1,), ()), ((), (0,)), ((), (1,)), ((), (2,))]
        self.assertEqual(islands(Plate(grid, []), a), alone)
        self.assertEqual(islands(Plate(grid, [(0, 0, b)]), a), alone)
        self.assertEqual(islands(Plate(grid, [(0, 0, a)]), a), [((0,), (0,)), ((1,), ()), ((), (1,)), ((), (2,))])
        every = [(row, column, a) for row in range(2) for column in range(3)]
        self.assertEqual(islands(Plate(grid, every), a), [((0, 1), (0, 1, 2))])
        self.assertEqual(islands(Plate(Grid("g", 1, 1), []), a), [((0,), ()), ((), (0,))])

    def test_the_order_is_that_of_the_least_rows(self):
        plate = Plate(Grid("g", 3, 3), [(2, 0, a), (1, 2, a), (0, 0, a)])
        self.assertEqual(islands(plate, a), [((0, 2), (0,)), ((1,), (2,)), ((), (1,))])

    def test_many(self):
        chance = random.Random(44)
        for round_ in range(200):
            grid = Grid("g", chance.randint(1, 5), chance.randint(1, 5))
            spots = [(chance.randrange(grid.rows), chance.randrange(grid.columns), chance.choice([a, a, b]))
                     for _ in range(chance.randint(0, 9))]
            plate = Plate(grid, spots)
            self.assertEqual(islands(plate, a), flooded(plate, a))

    def test_what_is_told(self):
        chance = random.Random(144)
        for round_ in range(20):
            grid = Grid("g", chance.randint(1, 3), chance.randint(1, 3))
            spots = [(chance.randrange(grid.rows), chance.randrange(grid.columns), a)
                     for _ in range(chance.randint(0, 5))]
            plate = Plate(grid, spots)
            lines, found = plate.lines(), islands(plate, a)
            for row in range(grid.rows):
                for other in range(grid.rows):
                    gap = Form.gap(f"g.r{row}", f"g.r{other}")
                    together = any(row in rows and other in rows for rows, _ in found)
                    self.assertEqual(cancel(lines, gap)[0] == "weights", together)
                for column in range(grid.columns):
                    together = any(row in rows and column in columns for rows, columns in found)
                    total = grid.total(row, column, a)
                    self.assertEqual(cancel(lines, total)[0] == "weights", together)

    def test_nothing_is_shared(self):
        plate = Plate(Grid("g", 1, 1), [(0, 0, a)])
        islands(plate, a).clear()
        self.assertEqual(islands(plate, a), [((0,), (0,))])
