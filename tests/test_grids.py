import unittest
import unittest.mock

from metehouse.claims import Same
from metehouse.errors import BadName, BadNumber, BadReading, BadShape, NoPlace, TooMany
from metehouse.forms import Form, is_quantity, make_form
from metehouse.grids import Grid, Well, shape_value
from tests.helping import Case

A = Form.one("a")
BIG = 10 ** 29 + 7


class TestShapes(Case):
    def test_values(self):
        for shape, values in [
                (("power", 1), [0, 1, 2, 3, 4]), (("power", 2), [0, 1, 4, 9, 16]), (("power", 3), [0, 1, 8, 27, 64]),
                (("step", 1), [0, 1, 1, 1, 1]), (("step", 3), [0, 0, 0, 1, 1]), (("cycle", 2), [0, 1, 0, 1, 0]),
                (("cycle", 3), [0, 1, 2, 0, 1])]:
            self.assertEqual([shape_value(shape, time) for time in range(5)], values)
        self.assertEqual(shape_value(("power", 3), BIG), BIG ** 3)
        self.assertEqual(shape_value(("step", 24), 23), 0)
        self.assertEqual(shape_value(("step", 24), 24), 1)
        self.assertEqual(shape_value(("cycle", 12), BIG), BIG % 12)

    def test_bounds(self):
        good = [("power", 1), ("power", 3), ("step", 1), ("step", 24), ("cycle", 2), ("cycle", 12)]
        bad = [("power", 0), ("power", 4), ("step", 0), ("step", 25), ("cycle", 1), ("cycle", 13), ("power", -1),
               ("wave", 2), ("", 1), ("power",), ("power", 1, 1), (), ("step", True), ("step", "1"), ("step", None),
               (1, "step"), "ab", None, 5, ["power", 1], ("power", BIG)]
        for shape in good:
            self.assertEqual(Grid("p", 1, 1, drift=[shape]).drift, (shape,))
        for shape in bad:
            self.refused(BadShape, Grid, "p", 1, 1, drift=[good[0], shape, ("bad", 9)], has={"shape": shape})


class TestGrid(Case):
    def test_attributes(self):
        drift = [("step", 2), ("power", 1)]
        grid = Grid("plate", 3, 12, drift=drift)
        drift.append(("cycle", 5))
        self.assertEqual((grid.name, grid.rows, grid.columns), ("plate", 3, 12))
        self.assertEqual(grid.drift, (("step", 2), ("power", 1)))
        self.assertEqual(Grid("p", 1, 1).drift, ())

    def test_errors_in_order(self):
        bad = [("power", 9)]
        self.refused(BadName, Grid, "P", 0, 0, drift=bad, has={"name": "P"})
        self.refused(BadNumber, Grid, "p", 0, 13, drift=bad, has={"number": 0})
        self.refused(BadNumber, Grid, "p", 13, 0, drift=bad, has={"number": 13})
        self.refused(BadNumber, Grid, "p", 12, 0, drift=bad, has={"number": 0})
        self.refused(BadNumber, Grid, "p", 12, 13, drift=bad, has={"number": 13})
        self.refused(BadShape, Grid, "p", 12, 12, drift=[("step", 1)] * 4 + bad, has={"shape": ("power", 9)})
        self.refused(TooMany, Grid, "p", 12, 12, drift=[("step", 1)] * 4, has={"what": "shapes", "most": 3})
        self.assertEqual(len(Grid("p", 12, 12, drift=(("step", 1),) * 3).drift), 3)

    def test_effects(self):
        grid = Grid("p", 2, 3, drift=(("step", 1), ("step", 1)))
        self.assertEqual(grid.effects(), ["p.r0", "p.r1", "p.c0", "p.c1", "p.c2", "p.d0", "p.d1"])
        grid.effects().clear()
        self.assertEqual(len(grid.effects()), 7)
        self.assertEqual(Grid("p", 12, 12).effects()[11:13], ["p.r11", "p.c0"])
        self.assertTrue(all(is_quantity(name) for name in Grid("abcdefgh", 12, 12).effects()))

    def test_total(self):
        grid = Grid("p", 2, 3, drift=[("power", 2), ("step", 3), ("cycle", 2)])
        self.assertEqual(grid.total(1, 2, 2 * A - 1), Form([("a", 2), ("p.r1", 1), ("p.c2", 1)], -1))
        self.assertEqual(grid.total(1, 2, A, 2), Form([("a", 1), ("p.r1", 1), ("p.c2", 1), ("p.d0", 4)]))
        self.assertEqual(
            grid.total(0, 0, A, time=3), Form([("a", 1), ("p.r0", 1), ("p.c0", 1), ("p.d0", 9), ("p.d1", 1), ("p.d2", 1)]))
        self.assertEqual(grid.total(0, 0, Form([("p.r0", -1)], 4)), Form([("p.c0", 1)], 4))

    def test_places(self):
        grid = Grid("p", 2, 3)
        for row, column in [(2, 0), (0, 3), (-1, 0), (0, -1), (2, 3), (BIG, 0)]:
            self.refused(NoPlace, grid.total, row, column, A, has={"row": row, "column": column})

    def test_equal(self):
        one = Grid("p", 2, 3, drift=[("step", 1)])
        self.assertEqual(one, Grid("p", 2, 3, drift=(("step", 1),)))
        for other in [Grid("q", 2, 3, drift=[("step", 1)]), Grid("p", 3, 3, drift=[("step", 1)]), Grid("p", 2, 3),
                      Grid("p", 2, 2, drift=[("step", 1)]), Grid("p", 2, 3, drift=[("step", 2)]), None, "p",
                      ("p", 2, 3, (("step", 1),)), unittest.mock.ANY]:
            self.assertIs(one == other, False)


class TestWell(Case):
    def setUp(self):
        self.grid = Grid("p", 2, 3, drift=[("step", 2), ("power", 1)])

    def test_says(self):
        well = Well("w", self.grid, 1, 2, 3 * A - 4, time=2)
        total = self.grid.total(1, 2, 3 * A - 4, 2)
        for told in (0, -BIG):
            self.assertEqual(well.says(told), Same(total, told))
        self.assertEqual(str(Well("w", self.grid, 0, 0, A).says(5)), "a + p.c0 + p.r0 - 5 = 0")

    def test_names_are_those_of_the_total(self):
        self.assertEqual(Well("w", self.grid, 1, 2, A, time=2).names(), ("a", "p.c2", "p.d0", "p.d1", "p.r1"))
        self.assertEqual(Well("w", self.grid, 1, 2, A).names(), ("a", "p.c2", "p.r1"))
        self.assertEqual(Well("w", self.grid, 1, 2, Form([("p.c2", -1)])).names(), ("p.r1",))
        self.assertEqual(Well("w", self.grid, 1, 2, A).tellings(), [])

    def test_wrong_tellings(self):
        well = Well("w", self.grid, 0, 0, A)
        for told in (True, False, None, "5", (5, 1), A):
            self.refused(BadReading, well.says, told, has={"name": "w", "told": told})

    def test_errors_in_order(self):
        self.refused(BadName, Well, "W", self.grid, 9, 9, A, time=-1, has={"name": "W"})
        for row, column in [(2, 0), (0, 3), (-1, 2), (1, -1)]:
            self.refused(NoPlace, Well, "w", self.grid, row, column, A, time=-1, has={"row": row, "column": column})
        self.refused(BadNumber, Well, "w", self.grid, 1, 2, A, time=-1, has={"number": -1})

    def test_written_form(self):
        self.assertEqual(
            str(Well("w", self.grid, 1, 2, make_form(-4, a=3), time=7)), "well w p 2 3 1 2 7 step 2 power 1 : 3 a - 4")
        self.assertEqual(str(Well("w", Grid("p", 12, 1), 11, 0, Form())), "well w p 12 1 11 0 0 : 0")


if __name__ == "__main__":
    unittest.main()
