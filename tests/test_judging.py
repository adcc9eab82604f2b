"""Judging: points 2 and 83 (judge, word) and point 84 (escapes, differ)."""

import random

from metehouse.claims import AtMost, Below, Both, Either, Not, Same
from metehouse.errors import TooDeep, TooWide
from metehouse.forms import Form
from metehouse.gauges import Gauge
from metehouse.grids import Grid, Well
from metehouse.house import House
from metehouse.instruments import LateGauge
from metehouse.judging import differ, escapes, judge, word
from metehouse.reading import read_claim, read_instrument
from tests.helping import Case
from tests.housing import all_quantities, gauge_house, has_world, is_right, plain_fits, some_deniable, some_house
from tests.test_house import contents

A, B = Form.one("a"), Form.one("b")


def plain_word(house, claim):
    """The word, from a search over all cases."""
    holds, breaks = has_world(house, claim), has_world(house, Not(claim))
    if holds:
        return "open" if breaks else "sure"
    return "never" if breaks else "none"


def renamed(text, names):
    for old, new in names.items():
        text = text.replace(old, new)
    return text


def shuffled(house, claim, chance):
    """The same house with other names, its instruments, readings and facts in another order; and the claim."""
    names = {"a": "zz", "b": "ya", "c": "k.1"}

    def form(other):
        for old in other.names():
            other = other.put(old, Form.one(names[old] + "x" if old in names else old))
        return other

    def put(other):
        for old, new in names.items():
            other = other.put(old, Form.one(new + "x"))
        return other
    new = House(limit=200)
    for budget, most in sorted(house.budgets().items(), reverse=True):
        new.allow(budget + "x", most)
    placed = house.names()
    chance.shuffle(placed)
    for name in placed:
        budget = house.budget_of(name)
        readings = house.readings(name)
        chance.shuffle(readings)
        text = str(house.instrument(name)).split(" ")
        text[1] = text[1] + "x"
        instrument = read_instrument(" ".join(text))
        for attribute in ("form", "forms", "left", "right", "first", "second"):
            if hasattr(instrument, attribute):
                old = getattr(instrument, attribute)
                setattr(instrument, attribute, tuple(form(part) for part in old) if type(old) is tuple else form(old))
        new.place(instrument, house.section_of(name) + "x", None if budget is None else budget + "x")
        for told in readings:
            new.read(instrument.name, told)
    facts = house.facts()
    chance.shuffle(facts)
    for section, fact in facts:
        new.learn(put(fact), section)
    return new, put(claim)


class TestJudge(Case):
    def check(self, house, claim):
        """The judgement is right, with its paper; the word."""
        before = contents(house)
        found = judge(house, claim)
        self.assertKind(found, tuple)
        if found[0] == "open":
            _, holds, breaks = found
            for world, value in ((holds, True), (breaks, False)):
                self.assertTrue(plain_fits(house, world))
                self.assertIs(claim(world), value)
                self.assertEqual(sorted(world), all_quantities(house, claim))
        else:
            given = {"none": [], "sure": [Not(claim)], "never": [claim]}[found[0]]
            self.assertEqual(len(found), 2)
            self.assertTrue(is_right(house, found[1], *given))
        self.assertEqual(word(house, claim), found[0])
        self.assertEqual(contents(house), before)
        return found[0]

    def test_all_words(self):
        seen = {"sure": 0, "never": 0, "open": 0, "none": 0}
        for seed in range(400):
            chance = random.Random(seed)
            house = some_house(chance, ["a", "b"], facts=1)
            claim = some_deniable(chance, ["a", "b", "d"])
            found = self.check(house, claim)
            self.assertEqual(found, plain_word(house, claim), seed)
            seen[found] += 1
        self.assertGreater(min(seen.values()), 10, seen)

    def test_empty_house(self):
        self.assertEqual(self.check(House(), AtMost(A)), "open")
        self.assertEqual(self.check(House(), Both()), "sure")
        self.assertEqual(self.check(House(), Either()), "never")
        self.assertEqual(judge(House(), Either()), ("never", ("split", ("given", 0), [])))

    def test_none_comes_before_sure_and_never(self):
        house = gauge_house([0, 0], [1, 2], 0)
        for claim in (Both(), Either(), AtMost(A), AtMost(Form.one("x"))):
            self.assertEqual(self.check(house, claim), "none")

    def test_twelve_readings_of_one_level(self):
        x = Form.one("x")
        house = gauge_house([1] * 12, [10, 11, 12] * 4, 2)
        self.assertEqual(self.check(house, Both(AtMost(x, 12), AtMost(9 - x))), "sure")
        self.assertEqual(self.check(house, AtMost(x, 10)), "never")
        self.assertEqual(self.check(house, AtMost(x, 11)), "sure")
        self.assertEqual(self.check(gauge_house([1] * 12, [10, 11, 12] * 4, 4), AtMost(x, 10)), "open")

    def test_errors_of_the_negation(self):
        house = gauge_house([0, 0], [1, 2], 0)
        wide = Both(*[AtMost(A, number) for number in range(65)])
        deep = AtMost(A)
        for _ in range(7):
            deep = Both(deep)
        self.assertEqual(deep.depth, 8)
        for call in (judge, word):
            self.refused(TooWide, call, house, wide, has={"width": 65})
            self.refused(TooWide, call, House(), Either(*[Same(A, number) for number in range(7)]), has={"width": 128})
            self.refused(TooDeep, call, house, deep, has={"depth": 9})
            self.refused(TooDeep, call, house, Both(deep.parts[0], *wide.parts), has={"depth": 9})
        self.assertEqual(self.check(house, Both(*[AtMost(A, number) for number in range(64)])), "none")

    def test_other_order_and_other_names(self):
        for seed in range(80):
            chance = random.Random(seed)
            house = some_house(chance, ["a", "b", "c"], instruments=6)
            claim = some_deniable(chance, ["a", "b"])
            other, changed = shuffled(house, claim, chance)
            self.assertEqual(word(house, claim), word(other, changed), seed)

    def test_worlds_are_new(self):
        house = gauge_house([1], [5], 1)
        _, holds, breaks = judge(house, AtMost(Form.one("x"), 5))
        holds.clear()
        breaks.clear()
        self.assertEqual(self.check(house, AtMost(Form.one("x"), 5)), "open")

    def test_wells_and_late_gauges(self):
        grid = Grid("g", 2, 2)
        house = House()
        house.allow("p", 1)
        for name, (row, column, form) in zip("abcd", ((0, 0, Form()), (0, 1, Form()), (1, 0, Form()), (1, 1, A))):
            house.place(Well(name, grid, row, column, form), "s")
            house.read(name, {"a": 5, "b": 7, "c": 4, "d": 9}[name])
        self.assertEqual(self.check(house, Same(A, 3)), "sure")
        house.place(LateGauge("l", A, B, radius=1), "s", "p")
        house.read("l", 9)
        self.assertEqual(self.check(house, Both(AtMost(8 - B), AtMost(B, 10))), "open")
        house.allow("p", 0)
        self.assertEqual(self.check(house, Both(AtMost(8 - B), AtMost(B, 10))), "sure")


class TestEscapes(Case):
    def check(self, house, other):
        """The world is right if there is one; True for a world."""
        before = (contents(house), contents(other))
        world = escapes(house, other)
        if world is not None:
            self.assertTrue(plain_fits(house, world))
            self.assertFalse(plain_fits(other, world))
            self.assertEqual(sorted(world), all_quantities(house, other))
        self.assertEqual((contents(house), contents(other)), before)
        return world is not None

    def plain(self, house, other):
        """True if some world fits the first house alone; every way of breaking the other one is tried."""
        for _, claim in other.facts():
            if has_world(house, ~claim):
                return True
        says = {name: other.says(name) for name in other.names()}
        if any(other.budget_of(name) is None and has_world(house, ~claim) for name, claim in says.items()):
            return True
        for budget, most in other.budgets().items():
            names = [name for name in other.names() if other.budget_of(name) == budget]
            for bits in range(2 ** len(names)):
                chosen = [says[name] for at, name in enumerate(names) if bits >> at & 1]
                if len(chosen) == most + 1 and has_world(house, *[~claim for claim in chosen]):
                    return True
        return False

    def test_small_houses(self):
        seen = {True: 0, False: 0}
        for seed in range(250):
            chance = random.Random(seed)
            house = some_house(chance, ["a", "b"], instruments=3, facts=1)
            other = some_house(chance, chance.choice([["a", "b"], ["b", "c"], ["c"]]), instruments=3, facts=1)
            if chance.random() < 0.4:
                other = house.twin()
                for budget in house.budgets():
                    if chance.random() < 0.7:
                        other.allow(budget, chance.randint(0, 3))
            found = self.check(house, other)
            self.assertEqual(found, self.plain(house, other), seed)
            seen[found] += 1
            both = differ(house, other)
            if found:
                self.assertEqual(both[0], 0)
            elif self.plain(other, house):
                self.assertEqual(both[0], 1)
                self.assertTrue(plain_fits(other, both[1]))
                self.assertFalse(plain_fits(house, both[1]))
                self.assertEqual(sorted(both[1]), all_quantities(house, other))
            else:
                self.assertIsNone(both)
        self.assertGreater(min(seen.values()), 40, seen)

    def test_no_common_quantities(self):
        house, other = gauge_house([0], [5], 0), gauge_house([0], [5], 0, Form.one("y"))
        self.assertTrue(self.check(house, other))
        self.assertTrue(self.check(other, house))
        self.assertFalse(self.check(house, House()))
        self.assertEqual(escapes(House(), House()), None)

    def test_a_house_that_no_world_fits(self):
        nothing = gauge_house([0, 0], [1, 2], 0)
        house = gauge_house([0], [5], 0)
        self.assertFalse(self.check(nothing, house))
        self.assertTrue(self.check(house, nothing))
        self.assertEqual(differ(nothing, house)[0], 1)
        self.assertIsNone(differ(nothing, nothing.twin()))
        self.assertEqual(differ(House(), nothing), (0, {"x": differ(House(), nothing)[1]["x"]}))

    def test_twins(self):
        for seed in range(40):
            house = some_house(random.Random(seed), ["a", "b"], instruments=6)
            self.assertIsNone(differ(house, house.twin()))
            self.assertIsNone(differ(house, house))

    def test_lower_numbers(self):
        house = gauge_house([0] * 6, [0, 0, 0, 1, 1, 2], 3)
        other = house.twin()
        other.allow("p", 4)
        self.assertFalse(self.check(house, other))
        self.assertTrue(self.check(other, house))
        self.assertEqual(escapes(other, house), {"x": (1, 1)})
        self.assertEqual(differ(house, other), (1, {"x": (1, 1)}))

    def test_facts_whose_negation_has_too_many_ways(self):
        for claim in (Either(*[Same(A, number) for number in range(12)]),
                      Both(Either(*[Same(A, number) for number in range(12)]), AtMost(B)),
                      Either(Both(Either(*[Same(A, number) for number in range(10)]), AtMost(B)),
                             Both(Either(*[Same(A, 20 + number) for number in range(10)]), AtMost(-B))),
                      Both(*[AtMost(A, number) for number in range(70)])):
            house, other = House(), House()
            other.learn(claim, "s")
            self.assertRaises(TooWide, Not, claim)
            self.assertTrue(self.check(house, other))
            house.learn(read_claim(str(claim)), "s")
            self.assertFalse(self.check(house, other))
            self.assertIsNone(differ(house, other))

    def test_a_budget_that_does_not_matter(self):
        house, other = gauge_house([0, 0], [1, 2], 2), House()
        self.assertIsNone(differ(house, other))
        self.assertFalse(self.check(other, house))
        house.place(Gauge("t", Form.one("x")), "s")
        house.read("t", 7)
        self.assertEqual(differ(house, other)[0], 1)

    def test_several_readings(self):
        house, other = House(), House()
        for one in (house, other):
            one.allow("p", 1)
            one.place(Gauge("g", A, radius=2), "s", "p")
            one.place(Gauge("h", A, radius=2), "s", "p")
            one.read("g", 3)
            one.read("h", 5)
        other.read("g", 4)
        self.assertTrue(self.check(house, other))
        self.assertFalse(self.check(other, house))
        self.assertFalse(escapes(house, other)["a"] in [(3, 1), (4, 1)])
