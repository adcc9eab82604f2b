"""Plans: point 94; compared with all orders of readings."""

import random

from metehouse.claims import AtMost, Below, Both, Either, Same, within
from metehouse.errors import NoTellings, Taken, TooDeep, TooMany, TooWide, UnknownInstrument
from metehouse.forms import Form
from metehouse.gauges import Gauge
from metehouse.house import House
from metehouse.instruments import Balance
from metehouse.judging import word
from metehouse.ladders import Ladder
from metehouse.plans import plan
from metehouse.runs import Run
from metehouse.tables import Table
from tests.helping import Case
from tests.housing import gauge_house, some_deniable
from tests.test_house import contents

A, B, X = Form.one("a"), Form.one("b"), Form.one("x")


def read_more(house, name, told):
    """The house in which this was read, too; the number of deeds does not matter."""
    other = house.twin()
    other.limit = 200
    other.read(name, told)
    return other


def least_length(house, claim, names):
    """The least length over all orders of readings, or None."""
    if word(house, claim) != "open":
        return 0
    lengths = []
    for name in names:
        rest = [other for other in names if other != name]
        below = [least_length(read_more(house, name, told), claim, rest) for told in house.instrument(name).tellings()]
        if None not in below:
            lengths.append(1 + max(below))
    return min(lengths, default=None)


def ladder_house(levels, most=None, top=8):
    """Ladders a, b, .. that reach these heights of x, which is from 0 to the top."""
    house = House()
    house.learn(within(X, 0, top), "s")
    if most is not None:
        house.allow("p", most)
    for name, level in zip("abcdefgh", levels):
        house.place(Ladder(name, X, length=level), "s", None if most is None else "p")
    return house


class TestPlan(Case):
    def length_of(self, house, claim, names, found):
        """The length of a plan, of which every entry is right."""
        if found[0] == "told":
            self.assertEqual(len(found), 2)
            self.assertEqual(found[1], word(house, claim))
            self.assertIn(found[1], ("sure", "never", "none"))
            return 0
        kind, name, branches = found
        self.assertEqual((kind, name in names), ("read", True))
        self.assertKind(branches, list)
        self.assertEqual([told for told, _ in branches], house.instrument(name).tellings())
        rest = [other for other in names if other != name]
        return 1 + max(self.length_of(read_more(house, name, told), claim, rest, below) for told, below in branches)

    def check(self, house, claim, *names):
        """The plan is right, or the stuck tellings are; the length."""
        before = contents(house)
        length, found = answer = plan(house, claim, *names)
        self.assertKind(answer, tuple)
        if length is None:
            self.assertKind(found, list)
            self.assertEqual([name for name, _ in found], list(names))
            other = house
            for name, told in found:
                other = read_more(other, name, told)
            self.assertEqual(word(other, claim), "open")
        else:
            self.assertEqual(self.length_of(house, claim, names, found), length)
        self.assertEqual(contents(house), before)
        return length

    def test_all_lengths(self):
        house = ladder_house([1, 3, 5])
        for claim, names, length in (
                (AtMost(X, 9), "abc", 0), (AtMost(X, 3), "abc", 1), (AtMost(X, 3), "b", 1), (AtMost(X, 3), "", None),
                (AtMost(X, 3), "ac", None), (Both(Below(1 - X), AtMost(X, 3)), "abc", 2),
                (Both(Below(1 - X), AtMost(X, 3)), "ab", 2), (Both(Below(1 - X), AtMost(X, 3)), "a", None),
                (Either(AtMost(X, 1), Both(Below(3 - X), AtMost(X, 5))), "abc", 2), (AtMost(X, 4), "abc", None),
                (AtMost(X, -1), "abc", 0)):
            self.assertEqual(self.check(house, claim, *names), length, (str(claim), names))
            self.assertEqual(least_length(house, claim, list(names)), length)

    def test_three_readings(self):
        house = House()
        for name in "abc":
            house.place(Ladder(name, Form.one(name), length=2), "s")
        claim = Both(*[AtMost(Form.one(name), 2) for name in "abc"])
        self.assertEqual(self.check(house, claim, "c", "a", "b"), 3)
        self.assertEqual(self.check(house, claim, "c", "a"), None)

    def test_all_orders_of_readings(self):
        seen = {}
        for seed in range(150):
            chance = random.Random(seed)
            house = House()
            house.allow("p", chance.randint(0, 1))
            names = "abc"[:chance.randint(0, 3)]
            for name in names:
                form = Form([(chance.choice("xy"), chance.choice([-1, 1]))])
                instrument = Ladder(name, form, length=chance.randint(0, 2))
                if chance.random() < 0.5:
                    instrument = Balance(name, form, Form([(chance.choice("xy"), 1)], chance.randint(-2, 2)))
                house.place(instrument, "s", chance.choice([None, None, "p"]))
            house.learn(within(X, 0, 2), "s")
            house.learn(within(Form.one("y"), 0, 2), "s")
            claim = some_deniable(chance, ["x", "y"], 1)
            if names and chance.random() < 0.6:
                claims = [house.instrument(name).says(house.instrument(name).tellings()[0]) for name in names]
                claim = chance.choice([Both, Either])(*claims)
            length = self.check(house, claim, *names)
            self.assertEqual(length, least_length(house, claim, list(names)), seed)
            seen[length] = seen.get(length, 0) + 1
        self.assertGreaterEqual(set(seen), {None, 0, 1, 2})

    def test_instruments_that_may_lie(self):
        claim = AtMost(X, 3)
        self.assertEqual(self.check(ladder_house([3, 3, 3], most=0), claim, "a", "b"), 1)
        self.assertEqual(self.check(ladder_house([3, 3, 3], most=1), claim, "a", "b"), None)
        self.assertEqual(self.check(ladder_house([3, 3, 3], most=1), claim, "a", "b", "c"), 3)
        self.assertEqual(self.check(ladder_house([3, 3, 3], most=2), claim, "a", "b", "c"), None)

    def test_tellings_after_which_no_world_fits(self):
        house = ladder_house([3, 3, 3])
        house.read("a", "reached")
        self.assertEqual(plan(house, AtMost(X, 3), "b"), (0, ("told", "sure")))
        length, found = plan(ladder_house([3, 5], top=4), AtMost(X, 3), "a", "b")
        self.assertEqual((length, found[1]), (1, "a"))
        none = gauge_house([0, 0], [1, 2], 0)
        none.place(Ladder("l", X, length=3), "s")
        self.assertEqual(plan(none, Both(), "l"), (0, ("told", "none")))

    def test_balances(self):
        house = House()
        house.learn(within(A, 0, 9), "s")
        house.place(Balance("b", A, Form((), 4)), "s")
        length, found = plan(house, Same(A, 4), "b")
        self.assertEqual((length, found), (1, ("read", "b", [
            ("left", ("told", "never")), ("even", ("told", "sure")), ("right", ("told", "never"))])))
        self.assertEqual(self.check(house, AtMost(A, 3), "b"), None)

    def test_full_houses(self):
        house = ladder_house([3, 5])
        house.change(len(house.history()))
        self.assertEqual(self.check(house, AtMost(X, 3), "b", "a"), 1)
        house = ladder_house([3])
        for _ in range(7):
            house.read("a", "reached")
        self.assertEqual(plan(house, AtMost(X, 2), "a"), (None, [("a", "reached")]))

    def test_errors_in_order(self):
        house = ladder_house([1, 2, 3, 4])
        house.place(Gauge("g", X), "s")
        house.place(Run("r", X, length=3, table=Table.race(0)), "s")
        for _ in range(8):
            house.read("d", "reached")
        wide = Both(*[AtMost(A, number) for number in range(65)])
        deep = AtMost(A)
        for _ in range(7):
            deep = Both(deep)
        self.refused(TooMany, plan, house, wide, "no", "a", "a", "g", has={"what": "names", "most": 3})
        self.refused(UnknownInstrument, plan, house, wide, "a", "no", "a", has={"name": "no"})
        self.refused(Taken, plan, house, wide, "a", "a", "no", has={"name": "a"})
        self.refused(NoTellings, plan, house, wide, "a", "g", "g", has={"name": "g"})
        self.refused(NoTellings, plan, house, wide, "r", "d", has={"name": "r"})
        self.refused(TooMany, plan, house, wide, "d", "no", has={"what": "readings", "most": 8})
        self.refused(Taken, plan, house, wide, "b", "b", "d", has={"name": "b"})
        self.refused(TooWide, plan, house, wide, "a", "b", has={"width": 65})
        self.refused(TooWide, plan, house, wide, has={"width": 65})
        self.refused(TooDeep, plan, house, deep, "a", has={"depth": 9})

    def test_results_are_new(self):
        house = ladder_house([3])
        _, found = plan(house, AtMost(X, 3), "a")
        found[2].clear()
        self.assertEqual(self.check(house, AtMost(X, 3), "a"), 1)
