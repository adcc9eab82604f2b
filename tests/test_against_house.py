"""What racks, tracks, plates, strikes, nets, trials and tables answer is what a house says of the same instruments."""

import random

from metehouse.cancelling import cancel, steady
from metehouse.cases import find_world
from metehouse.claims import AtMost, Below, Both, Not, Same
from metehouse.closures import Closure
from metehouse.errors import Clash, NoNet, NoStory, NotTold, NoValue, TooWide
from metehouse.forms import Form
from metehouse.gauges import CoarseGauge, Gauge
from metehouse.grids import Grid
from metehouse.house import House
from metehouse.islands import islands
from metehouse.judging import escapes, word
from metehouse.ladders import Ladder
from metehouse.lies import honesty, least_liars, suspects
from metehouse.misreads import best_world, fewest_misread, find_suspects, heights, is_blame
from metehouse.nets import Net
from metehouse.pieces import Pieces
from metehouse.plates import Plate, measure
from metehouse.races import quickest
from metehouse.racks import Rack
from metehouse.runs import Run
from metehouse.spans import signings, span
from metehouse.spoilt import spoilt
from metehouse.stopping import endings, stop
from metehouse.strikes import Strikes
from metehouse.tables import Table
from metehouse.tracks import Track
from metehouse.tunings import count_tunings, possible_beats, tunings
from tests.helping import Case
from tests.netting import open_net, some_net
from tests.test_misreads import some_case
from tests.test_plates import some_plate
from tests.test_racks import any_rack
from tests.test_strikes import some_strikes
from tests.test_tables import some_table

A = Form.one("a")


def values_of(house, form, *given):
    """The values of a form, without the tree."""
    return span(house, form, *given)[0]


def fact_house(claims, limit=200):
    """A house with these claims as its only facts."""
    house = House(limit=limit)
    for claim in claims:
        house.learn(claim, "s")
    return house


class TestRacks(Case):
    def rack_house(self, gauges, readings, most):
        house = House()
        house.allow("p", most)
        for gauge in gauges:
            house.place(gauge, "s", "p")
            if gauge.name in readings:
                house.read(gauge.name, readings[gauge.name])
        return house

    def test_possible_values_and_liars(self):
        for seed in range(80):
            chance = random.Random(seed)
            rack, gauges, readings = any_rack(chance)
            self.assertEqual(least_liars(self.rack_house(gauges, readings, 0), "p")[0], rack.least_liars(readings))
            for most in range(4):
                house = self.rack_house(gauges, readings, most)
                possible = rack.possible(readings, most)
                self.assertEqual(values_of(house, A), possible)
                if not possible:
                    self.refused(NoValue, rack.sure_liars, readings, most)
                    self.assertEqual(word(house, Both()), "none")
                    continue
                words = honesty(house)
                told = [name for name in rack.names() if name in readings]
                self.assertEqual(rack.sure_liars(readings, most), [name for name in told if words[name] == "liar"])
                self.assertEqual(rack.sure_honest(readings, most), [name for name in told if words[name] == "honest"])

    def test_clashes(self):
        for seed in range(40):
            rack, gauges, readings = any_rack(random.Random(seed))
            house = self.rack_house(gauges, readings, 24)
            told = [name for name in rack.names() if name in readings]
            pairs = [(one, two) for at, one in enumerate(told) for two in told[at + 1:]
                     if find_world(house, house.says(one), house.says(two)) is None]
            self.assertEqual(rack.clashes(readings), pairs)
            if not pairs and told:
                self.assertIsNotNone(find_world(house, *[house.says(name) for name in told]))


class TestTracks(Case):
    def told(self, chance, level):
        """The tellings of a tick: quadruples of a step or None, a radius, and the number."""
        found = []
        for _ in range(chance.randint(0, 3)):
            step = chance.choice([None, None, 2])
            number = level + chance.randint(-2, 2) if chance.random() < 0.8 else chance.randint(-9, 9)
            found.append((step, chance.randint(0, 2), number if step is None else number // step * step))
        return found

    def gauge(self, name, form, step, radius):
        return Gauge(name, form, radius=radius) if step is None else CoarseGauge(name, form, step=step, radius=radius)

    def test_point_33(self):
        stories, none = 0, 0
        for seed in range(60):
            chance = random.Random(seed)
            start = Pieces.between(chance.randint(-5, 0), chance.randint(0, 5))
            if chance.random() < 0.4:
                start = start | Pieces(((7, 1), False, None, False))
            pace, most, level = chance.randint(0, 2), chance.randint(0, 1), chance.randint(-2, 2)
            track, count = Track("lev", start, pace=pace, most=most), chance.randint(1, 4)
            house = House(limit=200)
            house.learn(start.claim(Form.one("lev.0")), "s")
            for claim in Net.fence("lev", count, pace).claims():
                house.learn(claim, "s")
            story = True
            for tick in range(count):
                house.allow("ticks" + "abcd"[tick:tick + 1], most)
                tellings = []
                for number, (step, radius, told) in enumerate(self.told(chance, level)):
                    name = "abcd"[tick] + "xyz"[number]
                    tellings.append((self.gauge(name, Form.one("lev"), step, radius), told))
                    house.place(self.gauge(name, Form.one(f"lev.{tick}"), step, radius), "s", "ticks" + "abcd"[tick])
                    house.read(name, told)
                level += chance.randint(-pace, pace)
                try:
                    story = story and track.record(*tellings) is not None
                except NoStory:
                    story = False
            if story:
                stories += 1
                for tick in range(count):
                    self.assertEqual(values_of(house, Form.one(f"lev.{tick}")), track.smoothed(tick), seed)
                for number in [part[0] or part[2] for part in track.now]:
                    if number in track.now:
                        levels = {f"lev.{tick}": value for tick, value in enumerate(track.story(number))}
                        self.assertIsNotNone(find_world(house, *[
                            Pieces.point(value).claim(Form.one(name)) for name, value in levels.items()]))
            else:
                none += 1
                self.assertIsNone(find_world(house))
        self.assertGreater(min(stories, none), 10)


class TestPlates(Case):
    def plate_house(self, plate, readings, most=None):
        house = House(limit=200)
        if most is not None:
            house.allow("p", most)
        for well, told in zip(plate.wells("w"), readings):
            house.place(well, "s", None if most is None else "p")
            house.read(well.name, told)
        return house

    def readings_of(self, chance, plate, faults):
        levels = {name: (chance.randint(-9, 9), 1) for line in plate.lines() for name in line.names()}
        found = [line(levels)[0] for line in plate.lines()]
        for _ in range(min(faults, len(found))):
            found[chance.randrange(len(found))] += chance.randint(1, 3)
        return found

    def test_point_42(self):
        seen = {"told": 0, "not": 0, "clash": 0}
        for seed in range(80):
            chance = random.Random(seed)
            plate = some_plate(chance, chance.randint(1, 12), drift=chance.choice([(), [("power", 1)]]))
            readings = self.readings_of(chance, plate, chance.choice([0, 0, 1, 2]))
            house = self.plate_house(plate, readings)
            lines = plate.lines()
            target = chance.choice([A, A - Form.one("b"), chance.choice(lines) - chance.choice(lines), chance.choice(lines)])
            found = values_of(house, target)
            try:
                value = measure(plate, readings, target)
            except Clash:
                seen["clash"] += 1
                self.assertEqual(found, Pieces.none())
            except NotTold:
                seen["not"] += 1
                self.assertEqual(found, Pieces.every())
            else:
                seen["told"] += 1
                self.assertEqual(found, Pieces.point(value))
        self.assertGreater(min(seen.values()), 8, seen)

    def test_spoilt_wells(self):
        for seed in range(40):
            chance = random.Random(seed)
            plate = some_plate(chance, chance.randint(4, 9))
            readings = self.readings_of(chance, plate, chance.randint(0, 2))
            house = self.plate_house(plate, readings, 0)
            for most in range(3):
                names = [tuple("w" + "abcdefghi"[index] for index in wells) for wells in spoilt(plate, readings, most=most)]
                self.assertEqual(suspects(house, "p", most=most), names, seed)

    def test_islands(self):
        for seed in range(20):
            chance = random.Random(seed)
            grid = Grid("g", chance.randint(1, 3), chance.randint(1, 3))
            plate = Plate(grid, [(chance.randrange(grid.rows), chance.randrange(grid.columns), A) for _ in range(4)])
            house = self.plate_house(plate, self.readings_of(chance, plate, 0))
            lands = islands(plate, A)
            for one in range(grid.rows):
                for two in range(one):
                    found = values_of(house, Form.gap(f"g.r{one}", f"g.r{two}"))
                    together = any(one in rows and two in rows for rows, _ in lands)
                    self.assertEqual(found != Pieces.every(), together)

    def test_steady(self):
        for seed in range(25):
            chance = random.Random(seed)
            lines = [Form([(chance.choice("abc"), chance.choice([-2, -1, 1, 2])) for _ in range(2)]) for _ in range(4)]
            target = Form([(chance.choice("abc"), 1), (chance.choice("abc"), 1)])
            if cancel(lines, target)[0] == "shift":
                self.refused_steady(lines, target)
                continue
            top, bottom = steady(lines, target)[0]
            house = House()
            for name, line in zip("wxyz", lines):
                house.place(Gauge(name, line, radius=3), "s")
                house.read(name, 0)
            self.assertEqual(values_of(house, bottom * target), Pieces.between(-3 * top, 3 * top))

    def refused_steady(self, lines, target):
        with self.assertRaises(NotTold):
            steady(lines, target)


class TestStrikesAndTunings(Case):
    def test_point_54(self):
        for seed in range(40):
            strikes = some_strikes(random.Random(seed), random.Random(seed).randint(0, 4), "abcd")
            house = fact_house(strikes.claims())
            forms = [Form.gap(second, first) for first, second, _ in strikes.rows]
            found = [signs for signs, _ in signings(house, *forms)]
            self.assertEqual(found, [rises for rises, _ in tunings(strikes)], seed)
            self.assertEqual(len(found), count_tunings(strikes))

    def test_possible_beats(self):
        seen = set()
        for seed in range(40):
            chance = random.Random(seed)
            strikes = some_strikes(chance, chance.randint(1, 5), "abcd")
            house = fact_house(strikes.claims())
            for lot in strikes.lots():
                first, second = chance.choice(lot), chance.choice(lot)
                beats = possible_beats(strikes, first, second)
                points = [Pieces.point((value, 1)) for size in beats for value in (-size, size)]
                expected = Pieces.none()
                for point in points:
                    expected = expected | point
                seen.add(len(beats))
                try:
                    self.assertEqual(values_of(house, Form.gap(first, second)), expected)
                except TooWide:
                    self.assertGreater(len(expected), 12)
        self.assertGreaterEqual(seen, {0, 1, 2})

    def test_quantities_of_different_lots(self):
        strikes = Strikes(("a", "b", 2), ("c", "d", 1))
        self.assertEqual(values_of(fact_house(strikes.claims()), Form.gap("a", "c")), Pieces.every())


class TestNets(Case):
    def stretch(self, below, above):
        """The values of a difference with these bounds of it and of its negative."""
        low = None if below is None else (-below[0], 1)
        high = None if above is None else (above[0], 1)
        return Pieces((low, below is not None and below[1] == "<=", high, above is not None and above[1] == "<="))

    def form(self, first, second):
        parts = [(first, -1), (second, 1)]
        return Form([part for part in parts if part[0] is not None])

    def test_point_59(self):
        rings = 0
        for seed in range(50):
            net = some_net(random.Random(seed), random.Random(seed).randint(1, 6))
            house = fact_house(net.claims())
            self.assertEqual(net.find_ring() is None, find_world(house) is not None)
            if net.find_ring() is not None:
                rings += 1
                continue
            for first in [None, *net.names()]:
                for second in [None, *net.names()]:
                    if first != second:
                        expected = self.stretch(net.bound(second, first), net.bound(first, second))
                        self.assertEqual(values_of(house, self.form(first, second)), expected)
            claims = [Same(bottom * Form.one(name), top) for name, (top, bottom) in net.levels().items()]
            self.assertIn(word(house, Both(*claims)), ("open", "sure"))
        self.assertGreater(rings, 5)

    def test_closures(self):
        for seed in range(40):
            chance = random.Random(seed)
            net, other = open_net(chance, chance.randint(1, 4)), open_net(chance, chance.randint(1, 4))
            one, two = Closure(net), Closure(other)
            house, second = fact_house(net.claims()), fact_house(other.claims())
            for name in one.names():
                self.assertEqual(one.room(name), values_of(house, Form.one(name)))
                self.assertEqual(one.apart("a", name), values_of(house, self.form("a", name) if name != "a" else Form()))
            self.assertEqual(one.inside(two), escapes(house, second) is None)
            both = fact_house(net.claims() + other.claims())
            try:
                joint = one & two
            except NoNet:
                self.assertIsNone(find_world(both))
                continue
            wide = one | two
            for name in joint.names():
                self.assertEqual(joint.room(name), values_of(both, Form.one(name)))
                least = values_of(house, Form.one(name)) | values_of(second, Form.one(name))
                self.assertTrue(least.inside(wide.room(name)))
            joined = fact_house(wide.net().claims())
            self.assertIsNone(escapes(house, joined))
            self.assertIsNone(escapes(second, joined))


class TestTrials(Case):
    def trial_house(self, net, trials, most):
        house = fact_house(net.claims())
        house.allow("p", most)
        for number, (name, told, height) in enumerate(trials):
            own = "abcdefgh"[number]
            # A ladder reaches heights from -1 on, so the level is moved up by 20.
            house.place(Ladder(own, Form.one(name) + 20, length=height + 20), "s", "p")
            house.read(own, told)
        return house

    def test_point_63(self):
        for seed in range(50):
            chance = random.Random(seed)
            net, trials = some_case(chance, chance.randint(0, 5))
            fewest = fewest_misread(net, trials)
            house = self.trial_house(net, trials, 0)
            self.assertEqual(least_liars(house, "p")[0], fewest)
            if fewest <= 3:
                names = tuple("abcdefgh"[index] for index in find_suspects(net, trials))
                self.assertIn(names, suspects(house, "p", most=3))
            for most in range(3):
                house = self.trial_house(net, trials, most)
                for name in net.names():
                    self.assertEqual(values_of(house, Form.one(name)), heights(net, trials, name, most), seed)

    def test_blames(self):
        for seed in range(30):
            chance = random.Random(seed)
            net, trials = some_case(chance, 4)
            house = self.trial_house(net, trials, 24)
            says = [house.says(name) for name in house.names()]
            for one in range(4):
                self.assertEqual(is_blame(net, trials, (one,)), find_world(house, says[one]) is None)
                for two in range(4):
                    fits = trials[one][1] == "missed" and trials[two][1] == "reached"
                    self.assertEqual(is_blame(net, trials, (one, two)),
                                     fits and find_world(house, says[one], says[two]) is None)
            world = best_world(net, trials)
            lying = sum(not claim(world) for claim in says)
            self.assertEqual(lying, fewest_misread(net, trials))


class TestTablesAndRuns(Case):
    def test_sound_words_are_what_the_house_says(self):
        for seed in range(40):
            chance = random.Random(seed)
            table = Table(*some_table(chance, chance.randint(1, 4)))
            for wrong in range(3):
                house = House()
                house.place(Run("run", A, length=3, table=table, wrong=wrong), "s")
                false = []
                for tries in self.ends_of(table):
                    said = table.word_after(tries)
                    other = house.twin()
                    other.read("run", tries)
                    truth = word(other, AtMost(A, 3))
                    if said != "unsure" and truth != {"reached": "sure", "missed": "never"}[said] and truth != "none":
                        false.append(tries)
                self.assertEqual(table.sound(wrong) is None, not false)
                if false:
                    self.assertIn(table.sound(wrong)[0], false)
                soft = table.softened(wrong)
                for tries in false:
                    self.assertEqual(soft.word_after(tries), "unsure")

    def ends_of(self, table, tries=""):
        if table.word_after(tries) is not None:
            return [tries]
        return self.ends_of(table, tries + "m") + self.ends_of(table, tries + "r")

    def test_races_stop_when_the_house_does(self):
        for wrong in range(3):
            for table in (Table.race(wrong), quickest(wrong, 3), quickest(wrong, 5)):
                house = House()
                house.place(Run("run", A, length=3, table=table, wrong=wrong), "s")
                for tries in self.ends_of(table):
                    said = table.word_after(tries)
                    self.assertEqual(stop(house, "run", tries), None if said == "unsure" else said)
                    for length in range(len(tries)):
                        self.assertIsNone(stop(house, "run", tries[:length]))
                self.assertEqual([tries for tries, _, _ in endings(house, "run")], self.ends_of(table))

    def test_longest(self):
        for seed in range(30):
            chance = random.Random(seed)
            table = Table(*some_table(chance, chance.randint(1, 4)))
            for wrong in range(3):
                house = House()
                house.place(Run("run", A, length=3, table=table, wrong=wrong), "s")
                possible = [tries for tries in self.ends_of(table)
                            if find_world(house, house.instrument("run").says(tries)) is not None]
                self.assertEqual(table.longest(wrong), max(len(tries) for tries in possible))


class TestWholeHouses(Case):
    def test_sure_claims_of_a_net_hold_in_a_house(self):
        net = Net.fence("w", 5, 2) + Net.box("w.0", 0, 3)
        house = fact_house(net.claims())
        most, sign = net.bound(None, "w.4")
        self.assertEqual((most, sign), (11, "<="))
        self.assertEqual(word(house, AtMost(Form.one("w.4"), 11)), "sure")
        self.assertEqual(word(house, Below(Form.one("w.4"), 11)), "open")
        self.assertEqual(word(house, Not(AtMost(Form.one("w.4"), 11))), "never")
