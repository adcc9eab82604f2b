"""Cases: points 80 to 82, with point 69; trees and worlds compared with a plain search over all cases."""

import random
import unittest

from metehouse.cases import closed, find_world, fits, liars
from metehouse.claims import AtMost, Below, Both, Either, Same
from metehouse.errors import NoQuantity
from metehouse.forks import Fork
from metehouse.forms import Form
from metehouse.gauges import Gauge
from metehouse.house import House
from tests.helping import Case
from tests.housing import all_quantities, gauge_house, has_world, is_right, plain_fits, some_claim, some_house
from tests.test_house import contents

A, B = Form.one("a"), Form.one("b")


class CaseOfCases(Case):
    def one_of_both(self, house, *given):
        """Exactly one of a right tree and a right world is there; True for a world."""
        before = contents(house)
        tree, world = closed(house, *given), find_world(house, *given)
        self.assertNotEqual(tree is None, world is None)
        if tree is not None:
            self.assertTrue(is_right(house, tree, *given))
        else:
            self.assertTrue(plain_fits(house, world))
            self.assertTrue(all(claim(world) for claim in given))
            self.assertEqual(sorted(world), all_quantities(house, *given))
        self.assertEqual(contents(house), before)
        return world is not None


class TestClosedAndWorlds(CaseOfCases):
    def test_small_houses(self):
        worlds = 0
        for seed in range(400):
            chance = random.Random(seed)
            house = some_house(chance, ["a", "b", "c"])
            given = [some_claim(chance, ["a", "b", "d"], 1) for _ in range(chance.choice([0, 0, 1, 2]))]
            found = self.one_of_both(house, *given)
            worlds += found
            self.assertEqual(found, has_world(house, *given), seed)
        self.assertGreater(worlds, 100)
        self.assertLess(worlds, 350)

    def test_larger_houses(self):
        for seed in range(150):
            chance = random.Random(seed)
            house = some_house(chance, ["a", "b", "c", "d"], instruments=14, facts=3, budgets=3, trusted=0.1)
            self.one_of_both(house, some_claim(chance, ["a", "b"]))

    def test_empty_house(self):
        self.assertEqual((closed(House()), find_world(House())), (None, {}))
        self.assertEqual(find_world(House(), Both(), AtMost(Form())), {})
        self.assertEqual(closed(House(), Either()), ("split", ("given", 0), []))
        self.assertEqual(sorted(find_world(House(), AtMost(B - A))), ["a", "b"])

    def test_claims_without_ways(self):
        house = House()
        house.learn(Both(), "s")
        self.assertTrue(self.one_of_both(house))
        house.learn(Either(), "s")
        self.assertFalse(self.one_of_both(house))

    def test_a_row_without_terms(self):
        for claim, holds in ((Below(Form()), False), (AtMost(Form()), True), (Same(Form((), 1)), False), (Below(Form((), -1)), True)):
            self.assertEqual(self.one_of_both(House(), claim), holds)

    def test_budgets_from_0_to_24(self):
        told = [10 * number for number in range(24)]
        for most in (0, 1, 12, 22, 23, 24):
            house = gauge_house([1] * 24, told, most)
            self.assertEqual(self.one_of_both(house), most >= 23)
        house = gauge_house([1] * 24, [0] * 24, 0)
        self.assertTrue(self.one_of_both(house))
        self.assertFalse(self.one_of_both(house, Below(2 - Form.one("x"))))

    def test_trusted_instruments(self):
        house = House()
        house.allow("p", 24)
        house.place(Gauge("g", A), "s")
        house.place(Gauge("h", A), "s", "p")
        house.read("g", 3)
        house.read("h", 4)
        self.assertTrue(self.one_of_both(house, Same(A, 3)))
        self.assertFalse(self.one_of_both(house, Same(A, 4)))
        house.read("g", 4)
        self.assertFalse(self.one_of_both(house))

    def test_a_house_that_changes_later(self):
        house = House()
        house.place(Gauge("g", A), "s")
        world = find_world(house)
        house.read("g", 3)
        self.assertEqual(sorted(world), ["a"])
        tree = closed(house, Same(A))
        house.undo()
        self.assertTrue(self.one_of_both(house, Same(A)))
        self.assertEqual(tree[0], "split")

    def test_results_are_new(self):
        house = gauge_house([0, 0], [1, 2], 1)
        world = find_world(house)
        world.clear()
        self.assertEqual(sorted(find_world(house)), ["x"])
        tree = closed(house, Below(Form.one("x")))
        stack = [tree]
        while stack:
            here = stack.pop()
            if here[0] == "weights":
                here[1].clear()
            elif here[0] == "split":
                stack.extend(here[2])
                here[2].clear()
            elif here[0] == "liar":
                stack.extend(here[2:])
        self.assertFalse(self.one_of_both(house, Below(Form.one("x"))))

    def test_values_of_30_digits(self):
        huge = 10 ** 30 - 1
        house = House()
        house.learn(Same(huge * A - (huge - 1) * B, huge), "s")
        house.learn(Same(huge * B - (huge - 2) * A, -huge), "s")
        self.assertTrue(self.one_of_both(house))
        self.assertFalse(self.one_of_both(house, Same(A - B, 7), Same(A + B, 3)))


class TestTime(CaseOfCases):
    """What would take ages if all choices were tried."""

    def test_facts_that_do_not_matter(self):
        house = House()
        for number in range(39):
            own = Form.one(f"v{number}")
            house.learn(Either(*[Same(own, value) for value in range(2)]), "s")
        house.learn(AtMost(A), "s")
        self.assertTrue(self.one_of_both(house))
        self.assertFalse(self.one_of_both(house, Below(1 - A)))

    def test_many_instruments_and_readings(self):
        house = House(limit=200)
        for budget in "pqtu":
            house.allow(budget, 2)
        chance = random.Random(5)
        for number, name in enumerate("abcdefghijklmnopqrstuvwx"):
            form = Form.one("xyzw"[number % 4])
            house.place(Gauge(name, form, radius=2), "s", "pqtu"[number % 4])
            for _ in range(5):
                house.read(name, 10 * (number % 4) + chance.randint(-2, 2) + (40 if number < 8 else 0))
        self.assertTrue(self.one_of_both(house))
        self.assertFalse(self.one_of_both(house, Below(Form.one("x"), -2)))

    def test_rounds_of_forks(self):
        house = House()
        for number in range(9):
            house.place(Fork("abcdefghi"[number], Form.one(f"q{number}"), Form.one(f"q{(number + 1) % 9}")), "s")
            house.read("abcdefghi"[number], 1)
        self.assertFalse(self.one_of_both(house))

    def test_wide_facts(self):
        chance = random.Random(3)
        house = House()
        for _ in range(40):
            forms = [Form.one("uvwxyz"[chance.randrange(6)]) for _ in range(8)]
            house.learn(Either(*[Same(form, chance.randint(0, 9)) for form in forms]), "s")
        self.one_of_both(house)


class TestFits(Case):
    def test_all_of_point_69(self):
        for seed in range(200):
            chance = random.Random(seed)
            house = some_house(chance, ["a", "b"], instruments=5, facts=1)
            for _ in range(6):
                world = {name: (chance.randint(-4, 4), 1) for name in [*house.quantities(), "z"]}
                self.assertIs(fits(house, world), plain_fits(house, world))
                lying = liars(house, world)
                self.assertKind(lying, list)
                self.assertEqual(lying, [name for name in house.names() if not house.says(name)(world)])

    def test_trusted_instruments_that_lie(self):
        house = House()
        house.allow("p", 1)
        for name, budget in (("z", None), ("g", "p"), ("a", None), ("f", "p")):
            house.place(Gauge(name, A), "s", budget)
            house.read(name, 3)
        self.assertEqual(liars(house, {"a": (4, 1)}), ["z", "g", "a", "f"])
        self.assertEqual(liars(house, {"a": (3, 1)}), [])
        house.drop("z", 0)
        house.drop("a", 0)
        house.drop("f", 0)
        self.assertEqual(liars(house, {"a": (4, 1)}), ["g"])
        self.assertIs(fits(house, {"a": (4, 1)}), True)
        house.read("f", 4)
        self.assertIs(fits(house, {"a": (7, 2)}), False)
        self.assertIs(fits(house, {"a": (4, 1)}), True)

    def test_one_false_reading_is_enough(self):
        house = House()
        house.allow("p", 0)
        house.place(Gauge("g", A, radius=1), "s", "p")
        house.read("g", 3)
        house.read("g", 5)
        self.assertEqual((liars(house, {"a": (4, 1)}), liars(house, {"a": (3, 1)})), ([], ["g"]))
        self.assertEqual((fits(house, {"a": (4, 1)}), fits(house, {"a": (3, 1)})), (True, False))

    def test_the_first_missing_quantity(self):
        house = House()
        house.place(Gauge("g", Form([("d", 1), ("c", 1)])), "s")
        house.learn(AtMost(Form.one("b")), "s")
        for call in (fits, liars):
            self.refused(NoQuantity, call, house, {}, has={"name": "b"})
            self.refused(NoQuantity, call, house, {"b": (5, 1), "d": (0, 1)}, has={"name": "c"})
            self.refused(NoQuantity, call, house, {"b": (5, 1), "c": (0, 1), "a": (0, 1)}, has={"name": "d"})
        self.assertIs(fits(house, {"b": (5, 1), "c": (0, 1), "d": (0, 1)}), False)
        self.assertEqual(liars(house, {"b": (5, 1), "c": (0, 1), "d": (0, 1)}), [])

    def test_nothing_is_changed(self):
        house = gauge_house([0, 0], [1, 2], 1)
        before, world = contents(house), {"x": (2, 1), "y": (0, 1)}
        fits(house, world)
        liars(house, world).append("z")
        self.assertEqual((contents(house), world), (before, {"x": (2, 1), "y": (0, 1)}))
        self.assertEqual(liars(house, world), ["a"])


if __name__ == "__main__":
    unittest.main()
