"""Questions about large houses, which are answered in seconds and not by trying all worlds or all choices."""

import random
import time

from metehouse.boards import beyond, board, check_lot
from metehouse.cases import closed, find_world
from metehouse.checking import checks
from metehouse.claims import AtMost, Below, Both, Either, Not, Same, within
from metehouse.forks import Fork
from metehouse.forms import Form
from metehouse.gauges import Gauge
from metehouse.grids import Grid, Well
from metehouse.grounds import check_ground, ground, needed
from metehouse.house import House
from metehouse.instruments import LateGauge
from metehouse.judging import differ, judge, word
from metehouse.ladders import Ladder
from metehouse.lies import honesty, least_liars, suspects
from metehouse.pieces import Pieces
from metehouse.plans import plan
from metehouse.runs import Run
from metehouse.spans import rank_span, signings, span
from metehouse.stopping import endings
from metehouse.tables import Table
from tests.helping import Case
from tests.housing import gauge_house

LETTERS = "abcdefghijklmnopqrstuvwx"
X = Form.one("x")


class Timed(Case):
    MOST_SECONDS = 30

    def setUp(self):
        self.start = time.monotonic()

    def tearDown(self):
        self.assertLess(time.monotonic() - self.start, self.MOST_SECONDS)


def four_levels(most, wrong):
    """24 gauges of four levels, 0, 10, 20 and 30; so many of them, of the first ones, tell something else."""
    house = House(limit=200)
    house.allow("p", most)
    for number, name in enumerate(LETTERS):
        house.place(Gauge(name, Form.one("xyzw"[number % 4]), radius=2), "east" if number % 2 else "west", "p")
        house.read(name, 10 * (number % 4) + (50 + 7 * number if number < wrong else number % 3))
    return house


def well_house(most, wrong):
    """24 wells with unknown effects, some of which are spoilt."""
    grid = Grid("g", 4, 4, drift=[("power", 1)])
    chance = random.Random(9)
    levels = {name: (chance.randint(-5, 5), 1) for name in [*grid.effects(), "s0", "s1", "s2", "s3", "s4"]}
    house = House(limit=200)
    house.allow("p", most)
    for number, name in enumerate(LETTERS):
        well = Well(name, grid, number % 4, number // 4 % 4, Form.one(f"s{number % 5}"), time=number)
        house.place(well, "s", "p")
        house.read(name, grid.total(well.row, well.column, well.form, number)(levels)[0] + (1 if number in wrong else 0))
    return house, levels


class TestManyGauges(Timed):
    def test_one_level(self):
        chance = random.Random(24)
        radii = [chance.randint(0, 6) for _ in LETTERS]
        told = [chance.randint(0, 60) for _ in LETTERS]
        for most in (0, 5, 12, 18, 20, 22):
            house = gauge_house(radii, told, most)
            pieces, tree = span(house, X)
            self.assertTrue(checks(house, tree, (~pieces).claim(X)))
            if pieces:
                self.assertEqual(len(honesty(house)), 24)
        self.assertEqual(least_liars(house, "p")[0], 17)
        self.assertEqual(suspects(house, "p", most=3), [])

    def test_four_levels(self):
        form = Form([("x", 1), ("y", 1), ("z", -1), ("w", 1)])
        house = four_levels(6, 6)
        pieces, tree = span(house, form)
        self.assertTrue(checks(house, tree, (~pieces).claim(form)))
        self.assertEqual(len(pieces), 1)
        self.assertEqual(least_liars(house, "p")[0], 6)
        self.assertEqual(honesty(house), {name: "liar" if number < 6 else "honest" for number, name in enumerate(LETTERS)})
        self.assertEqual(closed(four_levels(5, 6)) is None, False)
        self.assertEqual(suspects(four_levels(0, 3), "p", most=3), [("a", "b", "c")])

    def test_grounds(self):
        house = four_levels(2, 2)
        claim = Both(AtMost(X, 5), AtMost(Form.one("w"), 40))
        found = ground(house, claim)
        self.assertTrue(check_ground(house, claim, found))
        self.assertTrue(all(thing in found.things for thing in needed(house, claim)))

    def test_boards(self):
        house = four_levels(2, 1)
        slips = [AtMost(Form.one(name), 10 * number + 4) for number, name in enumerate("xyzw")]
        slips += [AtMost(Form.one(name), 10 * number - 5) for number, name in enumerate("xyzw")]
        lot = board(house, slips)
        self.assertEqual(lot.known, (0, 1, 2, 3))
        self.assertTrue(check_lot(house, slips, lot))
        self.assertEqual(beyond(house, slips), [])

    def test_twins(self):
        house = four_levels(3, 2)
        self.assertIsNone(differ(house, house.twin()))
        other = house.twin()
        other.drop("x", 0)
        other.read("x", 31)
        self.assertEqual(differ(house, other)[0], 1)

    def test_ranks(self):
        house = four_levels(3, 2)
        found = rank_span(house, 1, Form.one("y"), *[Form.one(name) for name in "xyzw"])
        self.assertTrue((0, 1) in found)

    def test_many_budgets_and_readings(self):
        house = House(limit=200)
        for budget in LETTERS[:8]:
            house.allow(budget, 1)
        for number, name in enumerate(LETTERS[:20]):
            form = Form([("xyz"[number % 3], 1), ("xyz"[(number + 1) % 3], 1)])
            house.place(LateGauge(name, form, X, radius=1), "s", LETTERS[number % 8])
            for reading in range(8):
                house.read(name, 8 if number < 6 else reading % 2 + 4)
        self.assertEqual(word(house, AtMost(X, 100)), word(house, AtMost(X, 100)))
        pieces, tree = span(house, X)
        self.assertTrue(checks(house, tree, (~pieces).claim(X)))


class TestWells(Timed):
    def test_spoilt_wells(self):
        house, levels = well_house(2, (3, 11))
        target = Form.gap("s1", "s0")
        pieces, tree = span(house, target)
        self.assertEqual(pieces, Pieces.point(target(levels)))
        self.assertTrue(checks(house, tree, (~pieces).claim(target)))
        self.assertEqual(least_liars(house, "p")[0], 2)
        self.assertEqual(suspects(house, "p"), [("d", "l")])
        self.assertEqual([name for name, found in honesty(house).items() if found == "liar"], ["d", "l"])


class TestWays(Timed):
    def test_rounds_of_forks(self):
        house = House()
        for number in range(11):
            house.place(Fork(LETTERS[number], Form.one(f"q{number}"), Form.one(f"q{(number + 1) % 11}")), "s")
            house.read(LETTERS[number], 1)
        tree = closed(house)
        self.assertTrue(checks(house, tree))

    def test_facts_that_do_not_matter(self):
        house = House()
        for number in range(30):
            house.learn(Either(*[within(Form.one(f"v{number}"), 3 * k, 3 * k + 1) for k in range(8)]), "s")
        house.learn(within(X, 3, 5), "s")
        house.learn(Either(Same(X, 3), Same(X, 4), Same(X, 6)), "s")
        self.assertEqual(str(span(house, X)[0]), "[3, 3] [4, 4]")
        self.assertEqual(judge(house, Below(X, 5))[0], "sure")
        self.assertEqual(ground(house, Below(X, 5)).things, [("fact", 30), ("fact", 31)])
        self.assertEqual(len(list(signings(house, X - 4, Form.one("v0") - 5))), 4)

    def test_facts_with_many_ways(self):
        house = House()
        for number in range(8):
            own = Form.one(f"v{number}")
            house.learn(Either(*[Same(own, 5 * value) for value in range(60)]), "s")
            house.learn(within(own - Form.one(f"v{number + 1}"), -1, 1), "s")
        self.assertEqual(word(house, Same(Form.gap("v0", "v7"))), "sure")
        self.assertIsNotNone(find_world(house, Same(Form.one("v3"), 295)))
        self.assertIsNone(find_world(house, Same(Form.one("v3"), 296)))

    def test_pigeonholes(self):
        house = House()
        for one in range(5):
            house.learn(Either(*[Same(Form.one(f"p{one}"), hole) for hole in range(4)]), "s")
            for two in range(one):
                house.learn(Not(Same(Form.gap(f"p{one}", f"p{two}"))), "s")
        self.assertTrue(checks(house, closed(house)))


class TestReadings(Timed):
    def test_plans(self):
        house = four_levels(3, 2)
        for name, level in (("la", 0), ("lb", 1), ("lc", 2)):
            if len(house) == 24:
                house = house.part("east")
            house.place(Ladder(name, Form.one("y"), length=level + 9), "s")
        self.assertEqual(plan(house, AtMost(Form.one("y"), 10), "la", "lb", "lc")[0], 1)

    def test_endings(self):
        table = Table(12, {(number, 12 - number): "unsure" for number in range(13)})
        house = four_levels(3, 2).part("east")
        house.place(Run("run", Form.one("y"), length=10, table=table, wrong=6), "s")
        found = list(endings(house, "run"))
        self.assertEqual({by for _, _, by in found}, {"house", "table"})
        # Only six tries of each kind leave both words possible.
        self.assertEqual(sum(by == "table" for _, _, by in found), 924)
