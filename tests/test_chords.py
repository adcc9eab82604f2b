"""Chords: point 48."""

from itertools import product

from metehouse.chords import as_often, between, highest, more_often
from metehouse.claims import Below, Both, Either, Same
from metehouse.errors import NoQuantity, TooWide
from metehouse.forms import Form
from tests.helping import Case

a, b, c, d = (Form.one(name) for name in "abcd")


def worlds(names):
    for levels in product(range(-2, 3), repeat=len(names)):
        yield {name: (level, 2) if level % 2 else (level // 2, 1) for name, level in zip(names, levels)}, levels


class TestChords(Case):
    def test_between(self):
        self.assertEqual(between(a, b, c), Either(Both(Below(a - b), Below(b - c)), Both(Below(c - b), Below(b - a))))
        self.assertEqual(str(between(a, b, c)), "either (both (a - b < 0) (b - c < 0)) (both (-b + c < 0) (-a + b < 0))")
        for world, (x, y, z) in worlds("abc"):
            self.assertEqual(between(a, b, c)(world), x < y < z or z < y < x)

    def test_highest(self):
        self.assertEqual(highest(a, b, c), Both(Below(b - a), Below(c - a)))
        self.assertEqual(str(highest(a)), "both")
        self.assertEqual(str(highest(a + 1, b)), "both (-a + b - 1 < 0)")
        for world, (x, y, z) in worlds("abc"):
            self.assertEqual(highest(a, b, c)(world), x > y and x > z)

    def test_as_often(self):
        self.assertEqual(as_often(a, b, c, d), Either(Same((a - b) - (c - d)), Same((a - b) + (c - d))))
        self.assertEqual(str(as_often(a, b, c, d)), "either (a - b - c + d = 0) (a - b + c - d = 0)")
        for world, (x, y, z, w) in worlds("abcd"):
            self.assertEqual(as_often(a, b, c, d)(world), abs(x - y) == abs(z - w))

    def test_more_often(self):
        self.assertEqual(str(more_often(a, b, c, d)),
                         "either (both (-a + b + c - d < 0) (-a + b - c + d < 0))"
                         " (both (a - b + c - d < 0) (a - b - c + d < 0))")
        for world, (x, y, z, w) in worlds("abcd"):
            self.assertEqual(more_often(a, b, c, d)(world), abs(x - y) > abs(z - w))

    def test_equal_forms(self):
        world = {"a": (5, 3), "b": (1, 1)}
        self.assertFalse(between(a, a, b)(world))
        self.assertFalse(between(a, a, a)(world))
        self.assertFalse(highest(a, a)(world))
        self.assertTrue(as_often(a, a, b, b)(world))
        self.assertTrue(as_often(a, b, b, a)(world))
        self.assertFalse(more_often(a, b, a, b)(world))
        self.assertFalse(more_often(a, a, a, a)(world))
        self.assertTrue(more_often(a, b, a, a)(world))

    def test_errors(self):
        self.refused(NoQuantity, between(a, b, c), {"a": (0, 1)}, has={"name": "b"})
        self.refused(NoQuantity, highest(d, c, b), {"b": (0, 1)}, has={"name": "c"})
        self.refused(NoQuantity, as_often(a, b, c, d), {"a": (0, 1), "b": (0, 1), "c": (0, 1)}, has={"name": "d"})
        self.refused(NoQuantity, more_often(a, b, c, d), {}, has={"name": "a"})
        self.assertEqual(highest(a, *[b] * 70).width, 1)
        self.refused(TooWide, lambda: ~~highest(a, *[b] * 65), has={"width": 65})
