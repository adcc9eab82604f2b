"""Forks: points 47, 24 and 75."""

from metehouse.errors import BadName, BadNumber, BadReading
from metehouse.forks import Fork
from metehouse.forms import Form
from metehouse.instruments import Balance, Instrument
from tests.helping import Case

a, b = Form.one("a"), Form.one("b")


class TestFork(Case):
    def test_says(self):
        fork = Fork("f", a, b + 1, blur=2)
        self.assertEqual(str(fork.says(5)), "either (both (-a + b + 4 <= 0) (a - b - 8 <= 0))"
                                            " (both (a - b + 2 <= 0) (-a + b - 6 <= 0))")
        exact = Fork("f", a, b)
        self.assertEqual(str(exact.says(0)), "either (both (-a + b <= 0) (a - b <= 0))"
                                             " (both (a - b <= 0) (-a + b <= 0))")

    def test_true_and_false_tellings(self):
        fork, blurred = Fork("f", a, b), Fork("f", a, b, blur=1)
        for gap in (-7, 7):
            world = {"a": (gap, 1), "b": (0, 1)}
            self.assertEqual([told for told in range(12) if fork.says(told)(world)], [7])
            self.assertEqual([told for told in range(12) if blurred.says(told)(world)], [6, 7, 8])
        world = {"a": (-5, 2), "b": (0, 1)}
        self.assertEqual([told for told in range(12) if fork.says(told)(world)], [])
        self.assertEqual([told for told in range(12) if blurred.says(told)(world)], [2, 3])

    def test_a_blur_greater_than_the_telling(self):
        claim = Fork("f", a, b, blur=3).says(1)
        self.assertEqual([gap for gap in range(-9, 10) if claim({"a": (gap, 1), "b": (0, 1)})], list(range(-4, 5)))

    def test_wrong_tellings(self):
        fork = Fork("f", a, b, blur=5)
        for told in (-1, -10 ** 29, True, False, "3", "", None, (1, 2), [3], {}, b""):
            self.refused(BadReading, fork.says, told, has={"name": "f", "told": told})
        fork.says(0)
        fork.says(10 ** 30 - 1)

    def test_creating(self):
        fork = Fork("f", a, b, blur=4)
        self.assertEqual((fork.name, fork.first, fork.second, fork.blur), ("f", a, b, 4))
        self.assertIsInstance(fork, Instrument)
        self.refused(BadName, Fork, "f1", a, b, blur=-1, has={"name": "f1"})
        self.refused(BadNumber, Fork, "f", a, b, blur=-1, has={"number": -1})

    def test_names_and_tellings(self):
        fork = Fork("f", b - a, Form.one("c") - b)
        self.assertEqual((fork.names(), fork.tellings()), (("a", "b", "c"), []))
        fork.tellings().append(3)
        self.assertEqual(fork.tellings(), [])
        self.assertEqual(Fork("f", Form(), Form((), 3)).names(), ())

    def test_written(self):
        self.assertEqual(str(Fork("f", a, b)), "fork f 0 : a ; b")
        self.assertEqual(str(Fork("tune", a - 2 * b + 3, Form(), blur=12)), "fork tune 12 : a - 2 b + 3 ; 0")

    def test_equal(self):
        fork = Fork("f", a, b, blur=1)
        self.assertTrue(fork == Fork("f", a, b, blur=1))
        for other in (Fork("g", a, b, blur=1), Fork("f", b, a, blur=1), Fork("f", a, b), Fork("f", a, b + 1, blur=1),
                      Balance("f", a, b, dead=1), str(fork), None):
            self.assertFalse(fork == other)
