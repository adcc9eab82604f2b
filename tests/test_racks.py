import itertools
import random
import unittest

from metehouse.errors import BadLimit, BadReading, NoValue, Taken, UnknownInstrument, Unlike
from metehouse.forms import Form
from metehouse.gauges import CoarseGauge, Gauge
from metehouse.pieces import Pieces
from metehouse.racks import Rack
from tests.helping import Case
from tests.sampling import candidates, ends_of, faults

A = Form.one("a")


def any_rack(chance):
    """A rack, and readings of some of its gauges."""
    gauges = []
    for name in chance.sample("abcdef", chance.randint(1, 6)):
        if chance.random() < 0.3:
            gauges.append(CoarseGauge(name, A, step=chance.randint(1, 4), radius=chance.randint(0, 2)))
        else:
            gauges.append(Gauge(name, A, radius=chance.randint(0, 3)))
    readings = {}
    for gauge in chance.sample(gauges, chance.randint(0, len(gauges))):
        step = gauge.step if type(gauge) is CoarseGauge else 1
        readings[gauge.name] = step * chance.randint(-4, 4)
    return Rack(*gauges), gauges, readings


class TestMaking(Case):
    def test_names(self):
        rack = Rack(Gauge("z", A), CoarseGauge("x", A, step=2), Gauge("y", A, radius=4))
        self.assertEqual(rack.names(), ["z", "x", "y"])
        self.assertEqual(len(rack), 3)
        self.assertIs("x" in rack, True)
        self.assertIs("a" in rack, False)
        rack.names().clear()
        self.assertEqual(rack.names(), ["z", "x", "y"])

    def test_errors_in_order(self):
        other = Form.one("b")
        self.refused(
            Taken, Rack, Gauge("z", A), Gauge("x", other), Gauge("y", A), Gauge("y", A), Gauge("z", A), has={"name": "y"})
        self.refused(Unlike, Rack, Gauge("z", A), Gauge("x", A + 0), Gauge("y", A + 1), Gauge("w", other), has={"name": "y"})

    def test_empty(self):
        rack = Rack()
        self.assertEqual((rack.names(), len(rack), "x" in rack), ([], 0, False))
        self.assertEqual((rack.possible({}, 0), rack.least_liars({}), rack.clashes({})), (Pieces.every(), 0, []))
        self.assertEqual((rack.blame({}, (0, 1)), rack.sure_liars({}, 0), rack.sure_honest({}, 0)), ([], [], []))


class TestErrors(Case):
    def calls(self, rack, readings):
        return [
            lambda: rack.possible(readings, -1), lambda: rack.least_liars(readings), lambda: rack.blame(readings, (0, 1)),
            lambda: rack.sure_liars(readings, -1), lambda: rack.sure_honest(readings, -1), lambda: rack.clashes(readings)]

    def test_readings(self):
        rack = Rack(Gauge("y", A), CoarseGauge("x", A, step=3), Gauge("b", A))
        for call in self.calls(rack, {"z": 1, "b": "q", "c": 3, "x": 1}):
            self.refused(UnknownInstrument, call, has={"name": "c"})
        for call in self.calls(rack, {"b": "q", "x": 1, "y": 5}):
            self.refused(BadReading, call, has={"name": "x", "told": 1})
        for call in self.calls(rack, {"b": True, "x": 3, "y": None}):
            self.refused(BadReading, call, has={"name": "y", "told": None})

    def test_limits(self):
        rack = Rack(Gauge("x", A), Gauge("y", A))
        told = {"x": 0, "y": 5}
        for call in (rack.possible, rack.sure_liars, rack.sure_honest):
            self.refused(BadLimit, call, told, -1, has={"limit": -1})
            self.refused(BadLimit, call, {}, -7, has={"limit": -7})

    def test_no_value(self):
        rack = Rack(Gauge("x", A), Gauge("y", A))
        told = {"x": 0, "y": 5}
        self.assertEqual(rack.possible(told, 0), Pieces.none())
        self.refused(NoValue, rack.sure_liars, told, 0)
        self.refused(NoValue, rack.sure_honest, told, 0)
        self.assertEqual(rack.sure_liars(told, 1), [])


class TestPlainCount(Case):
    def check(self, rack, gauges, readings):
        told = [gauge for gauge in gauges if gauge.name in readings]
        rooms = {gauge.name: gauge.room(readings[gauge.name]) for gauge in told}
        values = candidates(ends_of(*rooms.values()))
        wrong = {value: [gauge.name for gauge in told if value not in rooms[gauge.name]] for value in values}
        least = min(len(names) for names in wrong.values())
        self.assertEqual(rack.least_liars(readings), least)
        for value in values:
            self.assertEqual(rack.blame(readings, value), wrong[value])
        for most in range(len(told) + 2):
            possible = rack.possible(readings, most)
            self.assertEqual(faults(possible.parts), [])
            able = [value for value in values if len(wrong[value]) <= most]
            self.assertEqual([value for value in values if value in possible], able)
            if able:
                liars = [gauge.name for gauge in told if all(gauge.name in wrong[value] for value in able)]
                honest = [gauge.name for gauge in told if not any(gauge.name in wrong[value] for value in able)]
                self.assertEqual(rack.sure_liars(readings, most), liars)
                self.assertEqual(rack.sure_honest(readings, most), honest)
            else:
                self.refused(NoValue, rack.sure_liars, readings, most)
        clashes = [(one.name, two.name) for one, two in itertools.combinations(told, 2)
                   if not any(value in rooms[one.name] and value in rooms[two.name] for value in values)]
        self.assertEqual(rack.clashes(readings), clashes)
        if told and not clashes:
            self.assertEqual(least, 0)

    def test_many_racks(self):
        chance = random.Random(6)
        for _ in range(200):
            rack, gauges, readings = any_rack(chance)
            self.check(rack, gauges, readings)

    def test_readings_asked_again_after_a_change(self):
        rack = Rack(Gauge("x", A, radius=1), Gauge("y", A, radius=1))
        told = {"x": 3, "y": 4}
        possible = rack.possible(told, 0)
        told["y"] = 9
        self.assertEqual((str(possible), str(rack.possible(told, 0))), ("[3, 4]", "none"))
        del told["x"]
        self.assertEqual(str(rack.possible(told, 0)), "[8, 10]")
        self.assertEqual(told, {"y": 9})

    def test_the_order_of_keys_has_no_meaning(self):
        gauges = [Gauge(name, A) for name in "cab"]
        rack = Rack(*gauges)
        for names in itertools.permutations("abc"):
            told = {name: {"a": 0, "b": 0, "c": 5}[name] for name in names}
            self.assertEqual(rack.blame(told, (9, 1)), ["c", "a", "b"])
            self.assertEqual(rack.clashes(told), [("c", "a"), ("c", "b")])
            self.assertEqual(rack.sure_liars(told, 1), ["c"])
            self.assertEqual(rack.sure_honest(told, 1), ["a", "b"])


if __name__ == "__main__":
    unittest.main()
