import unittest
import unittest.mock

from metehouse.claims import Below, Both, Either, within
from metehouse.errors import BadName, BadNumber, BadReading
from metehouse.forms import Form, make_form
from metehouse.gauges import CoarseGauge, Gauge
from metehouse.grids import Grid, Well
from metehouse.house import House
from metehouse.instruments import Balance, Instrument, LateGauge
from tests.helping import Case

A, B = Form.one("a"), Form.one("b")
BIG = 10 ** 29 + 7
NO_INTEGERS = (True, False, None, "10", "", (10, 1), [10], 1.0, A)


class TestLateGauge(Case):
    def test_says(self):
        late = LateGauge("late", A, B + 2, A - B, radius=3)
        self.assertEqual(late.says(10), Either(within(A, 7, 13), within(B + 2, 7, 13), within(A - B, 7, 13)))
        self.assertEqual(LateGauge("late", A).says(-BIG), Either(within(A, -BIG, -BIG)))
        self.assertEqual(LateGauge("late", A, A).says(0).width, 2)

    def test_truth(self):
        late = LateGauge("late", A, B, radius=1)
        for a, b, truth in [(9, 0, True), (0, 11, True), (8, 12, False), (10, 10, True)]:
            self.assertIs(late.says(10)({"a": (a, 1), "b": (b, 1)}), truth)

    def test_wrong_tellings(self):
        for told in NO_INTEGERS:
            self.refused(BadReading, LateGauge("late", A).says, told, has={"name": "late", "told": told})

    def test_errors_in_order(self):
        self.refused(BadName, LateGauge, "L", radius=-1, has={"name": "L"})
        self.refused(BadNumber, LateGauge, "l", radius=-1, has={"number": 0})
        self.refused(BadNumber, LateGauge, "l", A, A, A, A, A, radius=-1, has={"number": 5})
        self.refused(BadNumber, LateGauge, "l", A, radius=-1, has={"number": -1})
        self.assertEqual(len(LateGauge("l", A, A, A, A).says(1).ways()), 4)

    def test_names_tellings_and_written_form(self):
        late = LateGauge("late", make_form(z=1, q=-2), Form((), 3), A, radius=BIG)
        self.assertEqual((late.name, late.names(), late.tellings()), ("late", ("a", "q", "z"), []))
        self.assertEqual(str(late), f"late late {BIG} : -2 q + z ; 3 ; a")
        self.assertEqual(str(LateGauge("x", A)), "late x 0 : a")


class TestBalance(Case):
    def test_says(self):
        balance = Balance("bal", A, 2 * B, dead=3)
        self.assertEqual(balance.says("left"), Below(2 * B - A, -3))
        self.assertEqual(balance.says("even"), within(A - 2 * B, -3, 3))
        self.assertEqual(balance.says("right"), Below(A - 2 * B, -3))
        self.assertEqual(str(balance.says("left")), "-a + 2 b + 3 < 0")

    def test_exactly_one_telling_is_true(self):
        for dead in (0, 2):
            balance = Balance("bal", A, B, dead=dead)
            for gap in range(-7, 8):
                world = {"a": (gap, 2), "b": (0, 1)}
                true = [told for told in balance.tellings() if balance.says(told)(world)]
                expected = "even" if abs(gap) <= 2 * dead else "left" if gap > 0 else "right"
                self.assertEqual(true, [expected])

    def test_tellings_are_new(self):
        balance = Balance("bal", A, B)
        self.assertEqual(balance.tellings(), ["left", "even", "right"])
        balance.tellings().clear()
        self.assertEqual(balance.tellings(), ["left", "even", "right"])

    def test_wrong_tellings(self):
        for told in ("Left", "", "leftright", 0, None, True, ["left"], A, ("left", "even", "right")):
            self.refused(BadReading, Balance("bal", A, B).says, told, has={"name": "bal", "told": told})

    def test_errors_in_order(self):
        self.refused(BadName, Balance, "", A, B, dead=-1, has={"name": ""})
        self.refused(BadNumber, Balance, "b", A, B, dead=-1, has={"number": -1})

    def test_names_and_written_form(self):
        balance = Balance("bal", make_form(z=1, c=1), A, dead=4)
        self.assertEqual((balance.name, balance.names()), ("bal", ("a", "c", "z")))
        self.assertEqual(str(balance), "balance bal 4 : c + z ; a")
        self.assertEqual(str(Balance("b", Form(), -A)), "balance b 0 : 0 ; -a")


class TestAllInstruments(Case):
    def setUp(self):
        grid = Grid("p", 2, 3)
        self.makers = [
            lambda name: Gauge(name, A), lambda name: Gauge(name, A, radius=1), lambda name: Gauge(name, A + 1),
            lambda name: CoarseGauge(name, A, step=1), lambda name: CoarseGauge(name, A, step=2),
            lambda name: LateGauge(name, A), lambda name: LateGauge(name, A, A), lambda name: Balance(name, A, B),
            lambda name: Balance(name, B, A), lambda name: Balance(name, A, B, dead=1),
            lambda name: Well(name, grid, 0, 0, A), lambda name: Well(name, grid, 0, 1, A),
            lambda name: Well(name, grid, 0, 0, A, time=1), lambda name: Well(name, Grid("p", 2, 2), 0, 0, A)]

    def test_equal_exactly_if_written_alike(self):
        made = [make(name) for name in ("x", "y") for make in self.makers]
        again = [make(name) for name in ("x", "y") for make in self.makers]
        for index, one in enumerate(made):
            for other, two in enumerate(again):
                self.assertIs(one == two, index == other)
                self.assertIs(str(one) == str(two), index == other)
            for two in (str(one), None, one.name, unittest.mock.ANY):
                self.assertIs(one == two, False)

    def test_names(self):
        for make in self.makers:
            for name in ("", "X", "a1", "a.b", "abcdefghi", "a b", None, 7):
                self.refused(BadName, make, name, has={"name": name})
            self.assertEqual(make("abcdefgh").name, "abcdefgh")

    def test_kinds(self):
        for make in self.makers:
            self.assertIsInstance(make("x"), Instrument)
        self.assertTrue(issubclass(CoarseGauge, Gauge))
        for one in (Gauge, LateGauge, Balance, Well):
            self.assertEqual(one.__bases__, (Instrument,))
        for word in ("says", "names", "tellings", "__eq__", "__str__"):
            self.assertIn(word, vars(Instrument))

    def test_in_a_house(self):
        house = House()
        for number, make in enumerate(self.makers):
            house.place(make("x" + "abcdefghijklmnop"[number]), "s")
        house.read("xa", 4)
        house.read("xh", "even")
        self.assertEqual(house.history()[0], "place s - gauge xa 0 : a")
        self.assertEqual(house.history()[-2:], ["read xa 4", "read xh even"])
        self.assertEqual(house.says("xa"), Both(within(A, 4, 4)))
        self.assertEqual(house.quantities(), ["a", "b", "p.c0", "p.c1", "p.r0"])
        self.refused(BadReading, house.read, "xa", "even", has={"name": "xa", "told": "even"})
        self.refused(BadReading, house.read, "xa", True, has={"name": "xa", "told": True})
        self.refused(BadReading, house.read, "xh", 4, has={"name": "xh", "told": 4})


if __name__ == "__main__":
    unittest.main()
