import unittest

from metehouse.claims import AtMost, Below, Both, within
from metehouse.errors import BadName, BadNumber, BadReading
from metehouse.forms import Form, make_form
from metehouse.gauges import CoarseGauge, Gauge
from metehouse.pieces import Pieces
from tests.helping import Case
from tests.sampling import candidates, ends_of

A = Form.one("a")
BIG = 10 ** 29 + 7
NO_INTEGERS = (True, False, None, "10", "", (10, 1), [10], 1.0, A)


class TestGauge(Case):
    def test_says(self):
        form = make_form(1, a=2, b=-1)
        gauge = Gauge("g", form, radius=3)
        self.assertEqual(gauge.says(-4), within(form, -7, -1))
        self.assertEqual(str(Gauge("g", A).says(5)), "both (-a + 5 <= 0) (a - 5 <= 0)")

    def test_attributes(self):
        gauge = Gauge("g", A - 1, radius=BIG)
        self.assertEqual((gauge.name, gauge.form, gauge.radius), ("g", A - 1, BIG))
        self.assertEqual((Gauge("g", A).radius, gauge.tellings(), gauge.names()), (0, [], ("a",)))
        self.assertEqual(Gauge("g", Form((), 4)).names(), ())

    def test_room(self):
        self.assertEqual(Gauge("g", A, radius=2).room(5), Pieces.between(3, 7))
        self.assertEqual(Gauge("g", A).room(-BIG), Pieces.point((-BIG, 1)))

    def test_wrong_tellings(self):
        for told in NO_INTEGERS:
            for gauge in (Gauge("g", A), CoarseGauge("g", A, step=1)):
                self.refused(BadReading, gauge.says, told, has={"name": "g", "told": told})
                self.refused(BadReading, gauge.room, told, has={"name": "g", "told": told})

    def test_errors_in_order(self):
        self.refused(BadName, Gauge, "G", A, radius=-1, has={"name": "G"})
        self.refused(BadNumber, Gauge, "g", A, radius=-1, has={"number": -1})

    def test_written_form(self):
        self.assertEqual(str(Gauge("g", make_form(-3, b=1, a=-2), radius=7)), "gauge g 7 : -2 a + b - 3")
        self.assertEqual(str(Gauge("g", Form())), "gauge g 0 : 0")


class TestCoarseGauge(Case):
    def test_says(self):
        gauge = CoarseGauge("g", A, step=5, radius=2)
        self.assertEqual(gauge.says(-10), Both(AtMost(-12 - A), Below(A + 3)))
        self.assertEqual(str(gauge.says(0)), "both (-a - 2 <= 0) (a - 7 < 0)")

    def test_room(self):
        self.assertEqual(str(CoarseGauge("g", A, step=5, radius=2).room(10)), "[8, 17)")
        self.assertEqual(str(CoarseGauge("g", A, step=1).room(-3)), "[-3, -2)")
        self.assertEqual(str(CoarseGauge("g", A, step=BIG).room(-BIG)), f"[{-BIG}, 0)")

    def test_room_and_claim_agree(self):
        for gauge in (Gauge("g", A, radius=2), CoarseGauge("g", A, step=3, radius=1), CoarseGauge("g", A, step=3)):
            for told in (-6, 0, 9):
                room = gauge.room(told)
                for value in candidates(ends_of(room)):
                    self.assertIs(value in room, gauge.says(told)({"a": value}))

    def test_multiples_alone(self):
        gauge = CoarseGauge("g", A, step=5)
        for told in (-11, -1, 1, 4, 6, BIG):
            self.refused(BadReading, gauge.says, told, has={"name": "g", "told": told})
            self.refused(BadReading, gauge.room, told, has={"name": "g", "told": told})
        for told in (-10, 0, 5, 10 ** 29):
            self.assertEqual(gauge.says(told).width, 1)

    def test_attributes(self):
        gauge = CoarseGauge("g", A - 1, step=4, radius=6)
        self.assertEqual((gauge.name, gauge.form, gauge.step, gauge.radius), ("g", A - 1, 4, 6))
        self.assertEqual((CoarseGauge("g", A, step=1).radius, gauge.tellings(), gauge.names()), (0, [], ("a",)))

    def test_errors_in_order(self):
        self.refused(BadName, CoarseGauge, "", A, step=0, radius=-1, has={"name": ""})
        self.refused(BadNumber, CoarseGauge, "g", A, step=0, radius=-1, has={"number": -1})
        self.refused(BadNumber, CoarseGauge, "g", A, step=0, has={"number": 0})
        self.refused(BadNumber, CoarseGauge, "g", A, step=-BIG, has={"number": -BIG})

    def test_written_form(self):
        self.assertEqual(str(CoarseGauge("abc", A, step=5, radius=2)), "coarse abc 2 5 : a")

    def test_methods_that_the_interface_lists(self):
        self.assertIn("room", vars(Gauge))


if __name__ == "__main__":
    unittest.main()
