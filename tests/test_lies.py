"""Lies: points 88 and 89; compared with trying each number, each instrument and each set."""

import random
from itertools import combinations

from metehouse.claims import Below, Both, Either
from metehouse.errors import BadLimit, NoWorld, UnknownBudget
from metehouse.forms import Form
from metehouse.gauges import Gauge
from metehouse.house import House
from metehouse.lies import honesty, least_liars, suspects
from metehouse.writing import read_house, write_house
from tests.helping import Case
from tests.housing import all_quantities, gauge_house, has_world, is_right, plain_fits, some_house
from tests.test_house import contents

A, X = Form.one("a"), Form.one("x")
HUGE = 10 ** 30 - 1


def with_number(house, budget, most):
    """The house with another number of a budget."""
    other = read_house(write_house(house))
    other.allow(budget, most)
    return other


def without_readings(house, names):
    other = read_house(write_house(house))
    for name in names:
        while other.readings(name):
            other.drop(name, 0)
    return other


class TestLeastLiars(Case):
    def check(self, house, budget):
        before = contents(house)
        most, world, tree = found = least_liars(house, budget)
        self.assertKind(found, tuple)
        if most is None:
            self.assertIsNone(world)
            self.assertTrue(is_right(with_number(house, budget, 24), tree))
        else:
            self.assertTrue(plain_fits(with_number(house, budget, most), world))
            self.assertEqual(sorted(world), all_quantities(house))
            if most == 0:
                self.assertIsNone(tree)
            else:
                self.assertTrue(is_right(with_number(house, budget, most - 1), tree))
        self.assertEqual(contents(house), before)
        return most

    def test_each_number(self):
        seen = set()
        for seed in range(120):
            house = some_house(random.Random(seed), ["a"], instruments=5, facts=1, trusted=0.1)
            expected = [most for most in range(6) if has_world(with_number(house, "p", most))]
            found = self.check(house, "p")
            self.assertEqual(found, expected[0] if expected else None, seed)
            seen.add(found)
        self.assertGreaterEqual(seen, {None, 0, 1, 2})

    def test_own_number_does_not_count(self):
        for most in (0, 3, 24):
            self.assertEqual(self.check(gauge_house([0] * 5, [1, 1, 2, 3, 3], most), "p"), 3)
            self.assertEqual(self.check(gauge_house([0] * 5, [1, 1, 1, 1, 1], most), "p"), 0)

    def test_24_and_none(self):
        house = gauge_house([0] * 24, range(24), 0)
        self.assertEqual(self.check(house, "p"), 23)
        house.learn(Below(X, -5), "s")
        self.assertEqual(self.check(house, "p"), 24)
        house.learn(Either(), "s")
        self.assertIsNone(self.check(house, "p"))

    def test_other_budgets_stay_as_they_are(self):
        house = gauge_house([0] * 3, [1, 2, 2], 0)
        house.allow("q", 0)
        house.place(Gauge("z", X), "s", "q")
        house.read("z", 1)
        self.assertEqual(self.check(house, "p"), 2)
        self.assertEqual(self.check(house, "q"), None)
        house.allow("p", 1)
        self.assertEqual(self.check(house, "q"), 1)

    def test_empty_budget(self):
        house = House()
        house.allow("p", 0)
        self.assertEqual(least_liars(house, "p"), (0, {}, None))

    def test_errors(self):
        house = gauge_house([0, 0], [1, 2], 0)
        for name in ("q", "s", "a", ""):
            self.refused(UnknownBudget, least_liars, house, name, has={"name": name})


class TestHonesty(Case):
    def plain(self, house):
        """The words, from a search over all cases for each instrument."""
        found = {}
        for name in house.names():
            if house.budget_of(name) is not None:
                claim = house.says(name)
                honest, lying = has_world(house, claim), has_world(house, ~claim)
                found[name] = "open" if honest and lying else "honest" if honest else "liar"
        return found

    def test_each_instrument(self):
        seen = {"honest": 0, "open": 0, "liar": 0, "none": 0}
        for seed in range(150):
            house = some_house(random.Random(seed), ["a", "b"], instruments=4, facts=1, trusted=0.1)
            before = contents(house)
            if has_world(house):
                found = honesty(house)
                self.assertEqual(found, self.plain(house), seed)
                self.assertEqual(list(found), [name for name in house.names() if house.budget_of(name)])
                for word in found.values():
                    seen[word] += 1
            else:
                self.assertRaises(NoWorld, honesty, house)
                seen["none"] += 1
            self.assertEqual(contents(house), before)
        self.assertGreater(min(seen.values()), 10, seen)

    def test_no_world(self):
        house = gauge_house([0, 0], [1, 2], 0)
        with self.assertRaises(NoWorld) as caught:
            honesty(house)
        self.assertTrue(is_right(house, caught.exception.tree))
        self.assertEqual(list(vars(caught.exception)), ["tree"])

    def test_words(self):
        house = gauge_house([0] * 4, [1, 1, 2, 1], 1)
        house.place(Gauge("t", X), "s")
        house.place(Gauge("z", X), "s", "p")
        self.assertEqual(honesty(house), {"a": "honest", "b": "honest", "c": "liar", "d": "honest", "z": "honest"})
        house.allow("p", 3)
        self.assertEqual(honesty(house), {"a": "open", "b": "open", "c": "open", "d": "open", "z": "honest"})
        house.read("t", 2)
        self.assertEqual(honesty(house), {"a": "liar", "b": "liar", "c": "honest", "d": "liar", "z": "honest"})
        self.assertEqual(honesty(House()), {})

    def test_one_of_several_readings(self):
        house = gauge_house([1, 1], [5, 5], 1)
        house.read("b", 7)
        self.assertEqual(honesty(house), {"a": "honest", "b": "open"})
        house.read("b", 9)
        self.assertEqual(honesty(house), {"a": "honest", "b": "liar"})


class TestSuspects(Case):
    def plain(self, house, budget, most):
        names = [name for name in house.names() if house.budget_of(name) == budget]
        for size in range(most + 1):
            found = [chosen for chosen in combinations(names, size)
                     if has_world(with_number(without_readings(house, chosen), budget, 0))]
            if found:
                return found
        return []

    def test_each_set(self):
        seen = set()
        for seed in range(100):
            house = some_house(random.Random(seed), ["a"], instruments=5, facts=1, trusted=0.1)
            before = contents(house)
            for most in range(4):
                found = suspects(house, "p", most=most)
                self.assertEqual(found, self.plain(house, "p", most), (seed, most))
                seen |= {len(chosen) for chosen in found}
            self.assertEqual(suspects(house, "p"), self.plain(house, "p", 2))
            self.assertEqual(contents(house), before)
        self.assertGreaterEqual(seen, {0, 1, 2})

    def test_order_of_placing(self):
        house = House()
        house.allow("p", 9)
        for name in "zyxw":
            house.place(Gauge(name, A), "s", "p")
            house.read(name, "zyxw".index(name) // 2)
        self.assertEqual(suspects(house, "p"), [("z", "y"), ("x", "w")])
        house.drop("z", 0)
        self.assertEqual(suspects(house, "p"), [("y",)])
        house.drop("y", 0)
        self.assertEqual(suspects(house, "p"), [()])

    def test_most(self):
        house = gauge_house([0] * 4, [1, 2, 3, 4], 0)
        self.assertEqual(suspects(house, "p", most=3), [("a", "b", "c"), ("a", "b", "d"), ("a", "c", "d"), ("b", "c", "d")])
        for most in range(3):
            self.assertEqual(suspects(house, "p", most=most), [])
        self.assertEqual(suspects(gauge_house([0], [1], 0), "p", most=0), [()])

    def test_other_budgets_stay_as_they_are(self):
        house = gauge_house([0] * 3, [1, 2, 2], 0)
        house.allow("q", 1)
        house.place(Gauge("z", X), "s", "q")
        house.read("z", 1)
        self.assertEqual(suspects(house, "p"), [("a",)])
        self.assertEqual(suspects(house, "q"), [])
        house.allow("q", 0)
        self.assertEqual(suspects(house, "p"), [("b", "c")])

    def test_no_world_whoever_is_blamed(self):
        house = gauge_house([0] * 3, [1, 2, 2], 0)
        house.learn(Both(Below(A), Below(-A)), "s")
        self.assertEqual(suspects(house, "p", most=3), [])

    def test_errors(self):
        house = gauge_house([0, 0], [1, 2], 0)
        self.refused(UnknownBudget, suspects, house, "q", most=-1, has={"name": "q"})
        for most in (-1, 4, HUGE, -HUGE):
            self.refused(BadLimit, suspects, house, "p", most=most, has={"limit": most})

    def test_new_list(self):
        house = gauge_house([0, 0], [1, 2], 0)
        suspects(house, "p").clear()
        self.assertEqual(suspects(house, "p"), [("a",), ("b",)])

    def test_24_instruments(self):
        house = gauge_house([1] * 24, [5] * 21 + [20, 30, 40], 0)
        self.assertEqual(suspects(house, "p", most=3), [("v", "w", "x")])
        self.assertEqual(suspects(house, "p"), [])
