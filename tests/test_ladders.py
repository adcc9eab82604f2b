"""Ladders: points 55, 56, 24 and 75."""

import random

from metehouse.claims import AtMost, Below
from metehouse.errors import BadName, BadNumber, BadReading
from metehouse.forms import Form
from metehouse.instruments import Instrument
from metehouse.ladders import Ladder, farthest, reach
from tests.helping import Case

a = Form.one("a")
HUGE = 10 ** 30 - 1


class TestReach(Case):
    def test_small(self):
        for length in range(40):
            for foot in range(45):
                best = max([r for r in range(length + 1) if r * r + foot * foot <= length * length], default=-1)
                self.assertEqual(reach(length, foot), best)
            self.assertEqual(reach(length), length)

    def test_edges(self):
        self.assertEqual((reach(0), reach(0, 0), reach(0, 1), reach(5, 5), reach(5, 6)), (0, 0, -1, 0, -1))
        self.assertEqual((reach(5, 3), reach(5, foot=4), reach(13, 12)), (4, 3, 5))

    def test_long(self):
        self.assertEqual(reach(HUGE), HUGE)
        self.assertEqual((reach(HUGE, HUGE), reach(HUGE, HUGE + 1)), (0, -1))
        chance = random.Random(55)
        for round_ in range(100):
            m, n = chance.randint(1, 10 ** 14), chance.randint(1, 10 ** 14)
            length, foot, height = m * m + n * n, 2 * m * n, abs(m * m - n * n)
            self.assertEqual(reach(length, foot), height)
            self.assertEqual(farthest(length, height), foot)
            for near in (-1, 1):
                foot_near = max(foot + near, 0)
                found = reach(length, foot_near)
                if foot_near <= length:
                    self.assertLessEqual(found * found + foot_near * foot_near, length * length)
                    self.assertGreater((found + 1) ** 2 + foot_near * foot_near, length * length)

    def test_errors(self):
        self.refused(BadNumber, reach, -1, -2, has={"number": -1})
        self.refused(BadNumber, reach, 0, -2, has={"number": -2})
        self.refused(BadNumber, farthest, -3, -5, has={"number": -3})


class TestFarthest(Case):
    def test_small(self):
        for length in range(40):
            for height in range(-3, 45):
                feet = [foot for foot in range(length + 1) if reach(length, foot) >= max(height, 0)]
                self.assertEqual(farthest(length, height), max(feet, default=-1))

    def test_edges(self):
        self.assertEqual((farthest(0, 0), farthest(0, 1), farthest(0, -1)), (0, -1, 0))
        self.assertEqual((farthest(5, 5), farthest(5, 6), farthest(5, 4), farthest(5, -9)), (0, -1, 3, 5))
        self.assertEqual((farthest(HUGE, HUGE), farthest(HUGE, HUGE + 1), farthest(HUGE, -HUGE)), (0, -1, HUGE))

    def test_long(self):
        chance = random.Random(56)
        for round_ in range(100):
            length = chance.randint(1, HUGE)
            height = chance.randint(1, length)
            foot = farthest(length, height)
            self.assertGreaterEqual(reach(length, foot), height)
            self.assertLess(reach(length, foot + 1), height)


class TestLadder(Case):
    def test_attributes(self):
        ladder = Ladder("l", a + 1, length=5, foot=3)
        self.assertEqual((ladder.name, ladder.form, ladder.height), ("l", a + 1, 4))
        self.assertEqual(Ladder("l", a, length=5).height, 5)
        self.assertEqual(Ladder("l", a, length=5, foot=9).height, -1)
        self.assertIsInstance(ladder, Instrument)

    def test_errors(self):
        self.refused(BadName, Ladder, "L", a, length=-1, foot=-2, has={"name": "L"})
        self.refused(BadNumber, Ladder, "l", a, length=-1, foot=-2, has={"number": -1})
        self.refused(BadNumber, Ladder, "l", a, length=1, foot=-2, has={"number": -2})

    def test_says(self):
        ladder = Ladder("l", a, length=5, foot=3)
        self.assertEqual(ladder.says("reached"), AtMost(a, 4))
        self.assertEqual(ladder.says("missed"), Below(4 - a))
        self.assertEqual((str(ladder.says("reached")), str(ladder.says("missed"))), ("a - 4 <= 0", "-a + 4 < 0"))
        for level in ((4, 1), (9, 2), (7, 2), (5, 1)):
            held = [told for told in ladder.tellings() if ladder.says(told)({"a": level})]
            self.assertEqual(held, ["reached" if level in ((4, 1), (7, 2)) else "missed"])

    def test_a_ladder_that_does_not_touch_the_wall(self):
        ladder = Ladder("l", a, length=5, foot=6)
        self.assertEqual(str(ladder.says("reached")), "a + 1 <= 0")
        self.assertEqual(str(ladder.says("missed")), "-a - 1 < 0")

    def test_wrong_tellings(self):
        ladder = Ladder("l", a, length=5)
        for told in ("Reached", "unsure", "", "r", 4, 0, None, True, ["reached"], ("reached",), b"reached", {}):
            self.refused(BadReading, ladder.says, told, has={"name": "l", "told": told})

    def test_names_and_tellings(self):
        ladder = Ladder("l", Form.gap("b", "a"), length=5)
        self.assertEqual((ladder.names(), ladder.tellings()), (("a", "b"), ["reached", "missed"]))
        ladder.tellings().clear()
        self.assertEqual(ladder.tellings(), ["reached", "missed"])

    def test_written(self):
        self.assertEqual(str(Ladder("l", a - 2, length=5, foot=3)), "ladder l 5 3 : a - 2")
        self.assertEqual(str(Ladder("lad", Form(), length=0)), "ladder lad 0 0 : 0")

    def test_equal(self):
        ladder = Ladder("l", a, length=5)
        self.assertTrue(ladder == Ladder("l", a, length=5, foot=0))
        for other in (Ladder("k", a, length=5), Ladder("l", a, length=5, foot=1), Ladder("l", a + 1, length=5),
                      Ladder("l", a, length=6), str(ladder), None):
            self.assertFalse(ladder == other)
