"""Checking trees: points 80 and 81."""

import random

from metehouse.cases import closed
from metehouse.checking import checks
from metehouse.claims import AtMost, Below, Both, Either, Same
from metehouse.forks import Fork
from metehouse.forms import Form
from metehouse.gauges import Gauge
from metehouse.house import House
from tests.helping import Case
from tests.housing import all_trees, gauge_house, is_right, replaced, some_claim, some_house

A, B = Form.one("a"), Form.one("b")


def changed_trees(tree):
    """Trees that are this one but for one entry."""
    for here in all_trees(tree):
        for new in changed_entries(here):
            yield replaced(tree, here, new)


def changed_entries(here):
    if here[0] == "weights":
        for at in range(len(here[1])):
            for change in (-1, 1):
                yield ("weights", here[1][:at] + [here[1][at] + change] + here[1][at + 1:])
        yield ("weights", here[1] + [0])
        yield ("weights", here[1][:-1])
        yield ("weights", [])
    elif here[0] == "over":
        for word in ("p", "q", "t", "none", ""):
            yield ("over", word)
    elif here[0] == "liar":
        for name in ("a", "b", "c", "d", "none"):
            yield ("liar", name, here[2], here[3])
        yield ("liar", here[1], here[3], here[2])
        yield here[2]
        yield here[3]
    else:
        for at in (-1, 0, 1, 2, 9):
            yield ("split", (*here[1][:-1], at), here[2])
        for place in (("given", 0), ("fact", 0), ("reading", "a", 0), ("reading", "none", 0), ("reading", "b", 1)):
            yield ("split", place, here[2])
        yield ("split", here[1], here[2] + [("over", "p")])
        if here[2]:
            yield ("split", here[1], here[2][:-1])
            yield ("split", here[1], [])
            yield ("split", here[1], here[2][::-1])
            yield here[2][0]
            yield ("split", here[1], [here] * len(here[2]))


def safe_is_right(house, tree, given):
    """The plain reading, where an unknown name, budget or place is wrong."""
    try:
        return is_right(house, tree, *given)
    except (IndexError, KeyError, ValueError):
        return False


class TestChecks(Case):
    def test_right_trees(self):
        found = 0
        for seed in range(300):
            chance = random.Random(seed)
            house = some_house(chance, ["a", "b", "c"], instruments=5)
            given = [some_claim(chance, ["a", "b"], 1) for _ in range(chance.choice([0, 1, 2]))]
            tree = closed(house, *given)
            if tree is not None:
                found += 1
                self.assertIs(checks(house, tree, *given), True)
        self.assertGreater(found, 60)

    def test_trees_with_one_entry_changed(self):
        seen = {True: 0, False: 0}
        for seed in range(150):
            chance = random.Random(seed)
            house = some_house(chance, ["a", "b"], instruments=4)
            given = [some_claim(chance, ["a", "b"], 1)]
            tree = closed(house, *given)
            if tree is not None and len(all_trees(tree)) < 25:
                for other in changed_trees(tree):
                    answer = checks(house, other, *given)
                    self.assertIs(answer, safe_is_right(house, other, given))
                    seen[answer] += 1
        self.assertGreater(seen[False], 2000)

    def test_other_given_claims(self):
        house = House()
        house.learn(AtMost(A), "s")
        tree = closed(house, Below(1 - A))
        self.assertTrue(checks(house, tree, Below(1 - A)))
        self.assertFalse(checks(house, tree))
        self.assertFalse(checks(house, tree, AtMost(-A)))
        self.assertFalse(checks(House(), tree, Below(1 - A)))
        self.assertTrue(checks(house, tree, Below(1 - A), Both()))
        self.assertFalse(checks(house, tree, Both(), Below(1 - A)))

    def test_weights(self):
        house = House()
        house.learn(AtMost(A), "s")
        house.learn(Below(-A), "s")

        def tree(weights):
            return ("split", ("fact", 0), [("split", ("fact", 1), [("weights", weights)])])
        self.assertTrue(checks(house, tree([1, 1])))
        self.assertTrue(checks(house, tree([5, 5])))
        for weights in ([1], [1, 1, 0], [1, 2], [0, 0], [-1, -1], []):
            self.assertFalse(checks(house, tree(weights)), weights)

    def test_rows_in_the_order_in_which_they_came_in(self):
        house = House()
        house.learn(Both(AtMost(2 * A), AtMost(B)), "s")
        house.learn(Below(-A), "s")

        def tree(first, second, weights):
            return ("split", ("fact", first), [("split", ("fact", second), [("weights", weights)])])
        self.assertTrue(checks(house, tree(0, 1, [1, 0, 2])))
        self.assertFalse(checks(house, tree(1, 0, [1, 0, 2])))
        self.assertTrue(checks(house, tree(1, 0, [2, 1, 0])))

    def test_places(self):
        house = House()
        house.allow("p", 0)
        house.place(Gauge("g", A), "s")
        house.place(Gauge("h", A), "s", "p")
        house.read("g", 1)
        house.read("h", 2)
        leaf = ("weights", [])
        for place in (("given", 0), ("given", -1), ("fact", 0), ("fact", -1), ("reading", "g", 1), ("reading", "g", -1),
                      ("reading", "none", 0), ("reading", "none", -1), ("reading", "h", 0), ("reading", "h", 1), ("reading", "h", -1)):
            self.assertFalse(checks(house, ("split", place, [leaf])), place)
            self.assertFalse(checks(house, ("split", place, [])), place)
        closing = ("weights", [1, 0, 0, 1])
        good = ("liar", "h", ("split", ("reading", "h", 0), [("split", ("reading", "g", 0), [closing])]), ("over", "p"))
        self.assertTrue(checks(house, good))
        good = ("liar", "h", ("split", ("reading", "g", 0), [("split", ("reading", "h", 0), [("weights", [0, 1, 1, 0])])]),
                ("over", "p"))
        self.assertTrue(checks(house, good))
        # The reading of an instrument that was decided to lie is no place of a split.
        bad = ("liar", "h", good[2], ("split", ("reading", "g", 0), [("split", ("reading", "h", 0), [("weights", [0, 1, 1, 0])])]))
        self.assertFalse(checks(house, bad))

    def test_a_place_that_is_split_twice(self):
        house = House()
        house.learn(Either(), "s")
        house.learn(AtMost(Form((), 1)), "s")
        self.assertTrue(checks(house, ("split", ("fact", 1), [("split", ("fact", 0), [])])))
        self.assertTrue(checks(house, ("split", ("fact", 1), [("weights", [1])])))
        self.assertFalse(checks(house, ("split", ("fact", 1), [("split", ("fact", 1), [("weights", [1, 0])])])))
        deep = ("weights", [1])
        for _ in range(3000):
            deep = ("split", ("fact", 1), [deep])
        self.assertFalse(checks(house, deep))

    def test_a_place_may_be_split_on_several_paths(self):
        house = House()
        house.learn(Same(A), "s")
        claim = Either(Below(A), Below(-A))
        leaves = [("weights", [1, -1]), ("weights", [1, 1])]
        tree = ("split", ("given", 0), [("split", ("fact", 0), [leaf]) for leaf in leaves])
        self.assertTrue(checks(house, tree, claim))
        self.assertFalse(checks(house, ("split", ("given", 0), tree[2][:1]), claim))
        self.assertFalse(checks(house, ("split", ("given", 0), tree[2][::-1]), claim))

    def test_over_and_liars(self):
        house = gauge_house([0, 0, 0], [1, 2, 3], 1)
        house.place(Gauge("t", A), "s")
        house.allow("q", 0)
        over = ("over", "p")
        closing = ("weights", [])
        self.assertFalse(checks(house, over))
        self.assertFalse(checks(house, ("over", "q")))
        self.assertFalse(checks(house, ("over", "none")))
        self.assertFalse(checks(house, ("over", "a")))
        for name in ("t", "none", "p", ""):
            self.assertFalse(checks(house, ("liar", name, over, over)), name)
        once = ("liar", "a", closing, ("liar", "b", closing, over))
        self.assertFalse(checks(house, once))
        twice = ("liar", "a", closing, ("liar", "a", closing, over))
        self.assertFalse(checks(house, twice))
        self.assertFalse(checks(house, ("liar", "a", over, over)))
        tree = closed(house)
        self.assertTrue(checks(house, tree))
        house.allow("p", 2)
        self.assertFalse(checks(house, tree))
        house.allow("p", 0)
        self.assertTrue(checks(house, tree))

    def test_a_tree_of_a_larger_number_holds_for_a_smaller_one(self):
        tree = closed(gauge_house([0] * 6, range(6), 4))
        for most in range(7):
            house = gauge_house([0] * 6, range(6), most)
            self.assertIs(checks(house, tree), most <= 4)

    def test_claims_without_ways(self):
        self.assertTrue(checks(House(), ("split", ("given", 0), []), Either()))
        self.assertFalse(checks(House(), ("split", ("given", 0), []), Both()))
        self.assertFalse(checks(House(), ("split", ("given", 0), [("weights", [])]), Either()))
        self.assertFalse(checks(House(), ("weights", [])))
        self.assertFalse(checks(House(), ("weights", [0])))

    def test_ways_of_readings(self):
        house = House()
        house.place(Fork("f", A, B), "s")
        house.read("f", 2)
        house.learn(Same(A - B), "s")
        tree = closed(house)
        self.assertTrue(checks(house, tree))
        house.drop("f", 0)
        self.assertFalse(checks(house, tree))

    def test_nothing_is_changed(self):
        house = gauge_house([0, 0], [1, 2], 0)
        tree = closed(house)
        text = repr(tree)
        checks(house, tree)
        self.assertEqual(repr(tree), text)
