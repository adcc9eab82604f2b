"""Grounds: point 90; against its words."""

import random

from metehouse.cases import closed, find_world
from metehouse.claims import AtMost, Below, Both, Not, Same
from metehouse.errors import NotSure, TooDeep, TooWide
from metehouse.forms import Form
from metehouse.gauges import Gauge
from metehouse.grounds import Ground, check_ground, ground, needed
from metehouse.house import House
from metehouse.judging import word
from tests.helping import Case
from tests.housing import all_trees, gauge_house, is_right, plain_fits, replaced, some_deniable, some_house
from tests.test_house import contents

A, B, X = Form.one("a"), Form.one("b"), Form.one("x")


def things_of(house):
    """All things of the house, in order."""
    return [("instrument", name) for name in house.names()] + [("fact", index) for index in range(len(house.facts()))]


def rest_of(things, thing):
    return [other for other in things if other != thing]


def sure_houses(count, start=0):
    """Houses with a claim that is sure in each."""
    found = []
    seed = start
    while len(found) < count:
        seed += 1
        chance = random.Random(seed)
        house = some_house(chance, ["a", "b"], instruments=5, facts=3)
        claim = some_deniable(chance, ["a", "b"])
        if word(house, claim) == "sure":
            found.append((house, claim))
    return found


def example():
    """A house in which a claim is sure for two things of each kind, and for none without the second fact."""
    house = House()
    house.allow("p", 1)
    for name, told in (("g", 3), ("k", 9), ("h", 4)):
        house.place(Gauge(name, A), "s", "p" if name != "k" else None)
        if name != "k":
            house.read(name, told)
    house.learn(Below(B, 7), "s")
    house.learn(AtMost(A - X), "t")
    return house


class TestGround(Case):
    def check(self, house, claim):
        """The ground is one by the words of point 90; its things."""
        before = contents(house)
        found = ground(house, claim)
        self.assertKind(found, Ground)
        self.assertKind(found.things, list)
        self.assertEqual([thing for thing in things_of(house) if thing in found.things], found.things)
        self.assertTrue(is_right(house.keeping(*found.things), found.tree, Not(claim)))
        self.assertEqual(sorted(found.worlds, key=repr), sorted(found.things, key=repr))
        self.assertEqual(word(house.keeping(*found.things), claim), "sure")
        for thing, world in found.worlds.items():
            less = house.keeping(*rest_of(found.things, thing))
            self.assertNotEqual(word(less, claim), "sure")
            self.assertTrue(plain_fits(less, world))
            self.assertFalse(claim(world))
        self.assertIs(check_ground(house, claim, found), True)
        self.assertEqual(contents(house), before)
        return found.things

    def test_random_houses(self):
        sizes = set()
        for house, claim in sure_houses(120):
            things = self.check(house, claim)
            sizes.add(len(things))
            wanted = needed(house, claim)
            self.assertEqual(wanted, [thing for thing in things_of(house)
                                      if word(house.keeping(*rest_of(things_of(house), thing)), claim) != "sure"])
            self.assertTrue(all(thing in things for thing in wanted))
        self.assertGreaterEqual(sizes, {0, 1, 2})

    def test_nothing_is_needed(self):
        self.assertEqual(self.check(House(), Both()), [])
        self.assertEqual(self.check(gauge_house([0], [1], 0), AtMost(Form((), -1))), [])
        self.assertEqual(needed(gauge_house([0], [1], 0), Both()), [])

    def test_example(self):
        house = example()
        claim = Both(AtMost(3 - X), AtMost(-X))
        self.assertEqual(word(house, claim), "sure")
        self.assertEqual(self.check(house, claim), [("instrument", "g"), ("instrument", "h"), ("fact", 1)])
        self.assertEqual(needed(house, claim), [("instrument", "g"), ("instrument", "h"), ("fact", 1)])

    def test_several_grounds(self):
        house = gauge_house([0] * 4, [3, 3, 3, 3], 1)
        self.assertEqual(len(self.check(house, Same(X, 3))), 2)
        self.assertEqual(needed(house, Same(X, 3)), [])

    def test_instruments_without_readings(self):
        house = gauge_house([0], [3], 0)
        house.place(Gauge("z", X), "s")
        self.assertEqual(self.check(house, Same(X, 3)), [("instrument", "a")])
        self.assertEqual(needed(house, Same(X, 3)), [("instrument", "a")])

    def test_errors(self):
        wide = Both(*[AtMost(A, number) for number in range(65)])
        deep = AtMost(A)
        for _ in range(7):
            deep = Both(deep)
        empty = Ground([], ("weights", []), {})
        house, nothing = gauge_house([0], [1], 0), gauge_house([0, 0], [1, 2], 0)
        for call in (ground, needed):
            self.refused(TooWide, call, nothing, wide, has={"width": 65})
            self.refused(TooDeep, call, house, deep, has={"depth": 9})
            self.refused(NotSure, call, house, Below(X, 1), has={"word": "never"})
            self.refused(NotSure, call, house, Below(A), has={"word": "open"})
            self.refused(NotSure, call, nothing, Both(), has={"word": "none"})
        self.refused(TooWide, check_ground, nothing, wide, empty, has={"width": 65})
        self.refused(TooDeep, check_ground, house, deep, empty, has={"depth": 9})

    def test_claims_that_are_not_sure(self):
        house, nothing = gauge_house([0], [1], 0), gauge_house([0, 0], [1, 2], 0)
        empty = Ground([], closed(House(), Not(Both())), {})
        self.assertIs(check_ground(house, Both(), empty), True)
        self.assertIs(check_ground(nothing, Both(), empty), False)
        for claim in (Below(X, 1), Below(A)):
            self.assertIs(check_ground(house, claim, empty), False)
            tree = closed(house, Not(claim))
            if tree is not None:
                self.assertIs(check_ground(house, claim, Ground([("instrument", "a")], tree, {("instrument", "a"): {}})), False)

    def test_it_holds_what_it_is_given(self):
        things, tree, worlds = [("fact", 0)], ("over", "p"), {}
        found = Ground(things, tree, worlds)
        self.assertIs(found.things, things)
        self.assertIs(found.tree, tree)
        self.assertIs(found.worlds, worlds)

    def test_results_are_new(self):
        house, claim = example(), AtMost(3 - X)
        found = ground(house, claim)
        found.things.clear()
        found.worlds.clear()
        self.assertEqual(len(self.check(house, claim)), 3)
        needed(house, claim).clear()
        self.assertEqual(len(needed(house, claim)), 3)


class TestCheckGround(Case):
    def setUp(self):
        self.house, self.claim = example(), AtMost(3 - X)
        self.found = ground(self.house, self.claim)

    def right(self, **changed):
        """What check_ground says of the ground with other parts."""
        parts = {"things": self.found.things, "tree": self.found.tree, "worlds": self.found.worlds, **changed}
        return check_ground(self.house, self.claim, Ground(parts["things"], parts["tree"], parts["worlds"]))

    def test_things(self):
        self.assertTrue(self.right())
        things = self.found.things
        self.assertFalse(self.right(things=things[::-1]))
        self.assertFalse(self.right(things=[things[1], things[0], things[2]]))
        self.assertFalse(self.right(things=things + things[-1:]))
        self.assertFalse(self.right(things=things[:1] + things))
        self.assertFalse(self.right(things=things[:-1]))
        self.assertFalse(self.right(things=[]))
        for thing in (("instrument", "none"), ("fact", 9), ("fact", -1), ("fact", 0), ("instrument", "k")):
            more = [*things, thing]
            self.assertFalse(self.right(things=more))
            ordered = sorted(more, key=lambda one: things_of(self.house).index(one) if one in things_of(self.house) else 99)
            world = self.found.worlds[things[0]]
            self.assertFalse(self.right(things=ordered, worlds={**self.found.worlds, thing: world}))

    def test_a_ground_that_is_too_large(self):
        things = things_of(self.house)
        tree = closed(self.house, Not(self.claim))
        worlds = {thing: self.found.worlds.get(thing, self.found.worlds[("fact", 1)]) for thing in things}
        self.assertFalse(self.right(things=things, tree=tree, worlds=worlds))

    def test_trees(self):
        self.assertFalse(self.right(tree=closed(self.house.keeping(), Both(Below(A), Below(-A)))))
        for here in all_trees(self.found.tree):
            self.assertFalse(self.right(tree=replaced(self.found.tree, here, ("weights", []))))
            self.assertFalse(self.right(tree=replaced(self.found.tree, here, ("split", ("fact", 1), []))))
        whole = closed(self.house, Not(self.claim))
        self.assertEqual(self.right(tree=whole), is_right(self.house.keeping(*self.found.things), whole, Not(self.claim))
                         if "('fact', 1)" not in repr(whole) else False)

    def test_worlds(self):
        worlds = self.found.worlds
        for thing, world in worlds.items():
            self.assertFalse(self.right(worlds={other: worlds[other] for other in worlds if other != thing}))
            self.assertFalse(self.right(worlds={**worlds, thing: {}}))
            for name in world:
                less = {other: world[other] for other in world if other != name}
                # Facts that are left out need no levels; b stands in the fact that is in no ground.
                needs = name in ("a", "x")
                self.assertEqual(self.right(worlds={**worlds, thing: less}), not needs, (thing, name))
            top, bottom = world["a"]
            for level in ((2 * top + 2, 2 * bottom + 2), (-top, -bottom), (2 * top, 2 * bottom), (top, 0), (0, 2), (1, -1)):
                if level != world["a"]:
                    self.assertFalse(self.right(worlds={**worlds, thing: {**world, "a": level}}), level)
            for level in ((2, 2), (0, 3), (1, 0), (0, 0), (3, -1), (-4, 6), (1,), (1, 2, 3), 1, None, "1", [1, 2], ("1", 1), (1, None)):
                self.assertFalse(self.right(worlds={**worlds, thing: {**world, "zz": level}}), level)
            for level in ((2, 1), (0, 1), (-4, 7)):
                self.assertTrue(self.right(worlds={**worlds, thing: {**world, "zz": level}}), level)
            holds = find_world(self.house.keeping(*rest_of(self.found.things, thing)), self.claim)
            self.assertFalse(self.right(worlds={**worlds, thing: holds}))
        self.assertFalse(self.right(worlds={**worlds, ("fact", 0): worlds[("fact", 1)]}))
        self.assertFalse(self.right(worlds={}))

    def test_a_world_that_does_not_fit(self):
        for thing, world in self.found.worlds.items():
            other = {**world, "a": (50, 1), "x": (0, 1)}
            self.assertFalse(self.claim(other))
            expected = plain_fits(self.house.keeping(*rest_of(self.found.things, thing)), other)
            self.assertEqual(self.right(worlds={**self.found.worlds, thing: other}), expected)

    def test_another_house(self):
        self.house.learn(Same(A, 50), "s")
        self.assertFalse(self.right())
        self.house.undo()
        self.house.learn(Same(B), "s")
        self.assertTrue(self.right())
