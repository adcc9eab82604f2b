"""Closures: points 60 and 61."""

import random
from itertools import product

from metehouse.closures import Closure
from metehouse.errors import NoNet
from metehouse.nets import Net
from metehouse.pieces import Pieces
from tests.helping import Case
from tests.netting import has_world, is_ring, open_net, rank_of

BOUNDS = [None, "a", "b", "c", "z"]


def keeps(net, world):
    return all(name in world for name in net.names()) and all(claim(world) for claim in net.claims())


def grid_of(names, levels=range(-5, 6)):
    for choice in product(levels, repeat=len(names)):
        yield {name: (level, 2) if level % 2 else (level // 2, 1) for name, level in zip(names, choice)}


def stretch(below, above):
    """The stretch of a difference between its two bounds."""
    low = (None, False) if below is None else ((-below[0], 1), below[1] == "<=")
    high = (None, False) if above is None else ((above[0], 1), above[1] == "<=")
    return Pieces((*low, *high))


class TestClosure(Case):
    def refused_net(self, net, call):
        with self.assertRaises(NoNet) as caught:
            call()
        self.assertEqual(list(vars(caught.exception)), ["ring"])
        self.assertTrue(is_ring(net, caught.exception.ring))

    def test_creating(self):
        net = Net([("a", "b", 1, "<"), ("b", "a", -1, "<=")])
        self.refused_net(net, lambda: Closure(net))
        self.assertEqual(Closure(Net()).names(), [])
        closure = Closure(Net.box("b", 0, 1) + Net.box("a", 0, 1))
        closure.names().clear()
        self.assertEqual(closure.names(), ["a", "b"])

    def test_bounds(self):
        chance = random.Random(60)
        for round_ in range(100):
            net = open_net(chance, chance.randint(0, 7))
            closure = Closure(net)
            self.assertEqual(closure.names(), net.names())
            spots = [None, *net.names()]
            for first in BOUNDS:
                for second in BOUNDS:
                    if first in spots and second in spots:
                        self.assertEqual(closure.bound(first, second), net.bound(first, second))
                    elif first != second:
                        self.assertIsNone(closure.bound(first, second))

    def test_names_that_are_not_there(self):
        closure = Closure(Net.box("a", 0, 1))
        self.assertEqual((closure.bound("z", "z"), closure.bound("z", "a"), closure.bound(None, "z")),
                         ((0, "<="), None, None))
        self.assertEqual((closure.room("z"), closure.apart("z", "a")), (Pieces.every(), Pieces.every()))
        self.assertEqual(closure.apart("z", "z"), Pieces.point((0, 1)))
        self.assertEqual(Closure(Net()).room("a"), Pieces.every())

    def test_rooms(self):
        closure = Closure(Net.box("a", 1, 4) + Net([("a", "b", 2, "<"), ("b", "a", 0, "<="), (None, "c", 3, "<")]))
        self.assertEqual(str(closure.room("a")), "[1, 4]")
        self.assertEqual(str(closure.room("b")), "[1, 6)")
        self.assertEqual(str(closure.room("c")), "(.., 3)")
        self.assertEqual(str(closure.room(None)), "[0, 0]")
        self.assertEqual(str(closure.apart("a", "b")), "[0, 2)")
        self.assertEqual(str(closure.apart("b", "a")), "(-2, 0]")
        self.assertEqual(str(closure.apart("a", None)), "[-4, -1]")
        self.assertEqual(str(closure.apart("a", "a")), "[0, 0]")
        self.assertEqual(str(closure.apart("c", "a")), "(-2, ..)")

    def test_rooms_of_many(self):
        chance = random.Random(160)
        for round_ in range(60):
            net = open_net(chance, chance.randint(0, 7))
            closure = Closure(net)
            for first in BOUNDS:
                for second in BOUNDS:
                    expected = stretch(closure.bound(second, first), closure.bound(first, second))
                    self.assertEqual(closure.apart(first, second), expected)
                self.assertEqual(closure.room(first), closure.apart(None, first))

    def test_worlds(self):
        chance = random.Random(161)
        for round_ in range(30):
            net = open_net(chance, chance.randint(0, 5))
            closure = Closure(net)
            for world in grid_of(net.names()):
                self.assertEqual(world in closure, keeps(net, world))
                self.assertIs(world in closure, (world | {"more": (1, 3)}) in closure)

    def test_a_world_with_a_name_missing(self):
        closure = Closure(Net.box("a", 0, 4) + Net.box("b", 0, 4))
        self.assertTrue({"a": (1, 1), "b": (1, 1)} in closure)
        self.assertFalse({"a": (1, 1)} in closure)
        self.assertFalse({} in closure)
        self.assertTrue({} in Closure(Net()))
        self.assertFalse({"a": (1, 1)} in (Closure(Net.box("a", 0, 1)) | Closure(Net.box("b", 0, 1))))
        self.assertTrue({"a": (9, 1), "b": (9, 1)} in (Closure(Net.box("a", 0, 1)) | Closure(Net.box("b", 0, 1))))

    def test_net(self):
        closure = Closure(Net([("b", "a", 2, "<"), (None, "b", 1, "<=")]))
        self.assertEqual(closure.net().limits, ((None, "a", 3, "<"), (None, "b", 1, "<="), ("b", "a", 2, "<")))
        self.assertEqual(Closure(Net()).net(), Net())
        self.assertKind(closure.net(), Net)

    def test_the_net_and_its_closure_again(self):
        chance = random.Random(162)
        for round_ in range(60):
            closure = Closure(open_net(chance, chance.randint(0, 8), "abcd"))
            net = closure.net()
            spots = [None, *closure.names()]
            expected = [(one, two, *closure.bound(one, two)) for one in spots for two in spots
                        if one != two and closure.bound(one, two) is not None]
            self.assertEqual(net.limits, tuple(expected))
            self.assertTrue(Closure(net) == closure)
            self.assertEqual(Closure(net).net(), net)

    def test_the_same_said_otherwise(self):
        one = Closure(Net([("a", "b", 1, "<="), ("b", "c", 1, "<="), ("a", "c", 5, "<")]))
        two = Closure(Net([("b", "c", 1, "<="), ("a", "c", 2, "<="), ("a", "b", 1, "<=")]))
        self.assertTrue(one == two)
        self.assertFalse(one == Closure(Net([("a", "b", 1, "<="), ("b", "c", 1, "<")])))


class TestSets(Case):
    def test_intersection(self):
        one, two = Closure(Net.box("a", 0, 5)), Closure(Net.box("a", 3, 9) + Net.box("b", 1, 1))
        both = one & two
        self.assertKind(both, Closure)
        self.assertEqual((both.names(), str(both.room("a")), str(both.room("b"))), (["a", "b"], "[3, 5]", "[1, 1]"))
        self.assertTrue(both == Closure(Net.box("a", 3, 5) + Net.box("b", 1, 1)))

    def test_no_intersection(self):
        one, two = Closure(Net.box("a", 0, 2)), Closure(Net([("a", None, -2, "<")]))
        joint = one.net() + two.net()
        with self.assertRaises(NoNet) as caught:
            one & two
        self.assertTrue(is_ring(joint, caught.exception.ring))
        self.assertEqual((str(one.room("a")), str(two.room("a"))), ("[0, 2]", "(2, ..)"))

    def test_union(self):
        one = Closure(Net.box("a", 0, 2) + Net.box("b", 0, 9))
        two = Closure(Net([(None, "a", 2, "<"), ("a", None, 3, "<="), ("a", "c", 1, "<=")]))
        either = one | two
        self.assertKind(either, Closure)
        self.assertEqual(either.names(), ["a", "b", "c"])
        self.assertEqual((str(either.room("a")), either.room("b"), either.room("c")),
                         ("[-3, 2]", Pieces.every(), Pieces.every()))
        self.assertEqual(either.net(), Net([(None, "a", 2, "<="), ("a", None, 3, "<=")]))

    def test_names_without_bounds_stay(self):
        either = Closure(Net.box("a", 0, 2)) | Closure(Net.box("b", 0, 2))
        self.assertEqual((either.names(), either.net()), (["a", "b"], Net()))
        self.assertEqual((either & Closure(Net())).names(), ["a", "b"])
        self.assertEqual((either | Closure(Net())).names(), ["a", "b"])
        self.assertEqual((either & Closure(Net.box("c", 0, 1))).names(), ["a", "b", "c"])
        self.assertTrue(either == Closure(Net()))
        self.assertFalse({"a": (0, 1), "c": (0, 1)} in (either & Closure(Net.box("c", 0, 1))))
        self.assertTrue({"a": (5, 1), "b": (9, 1), "c": (0, 1)} in (either & Closure(Net.box("c", 0, 1))))

    def test_inside(self):
        small, great = Closure(Net.box("a", 1, 2)), Closure(Net.box("a", 1, 3))
        self.assertTrue(small.inside(great))
        self.assertFalse(great.inside(small))
        self.assertTrue(Closure(Net([(None, "a", 2, "<")])).inside(Closure(Net([(None, "a", 2, "<=")]))))
        self.assertFalse(Closure(Net([(None, "a", 2, "<=")])).inside(Closure(Net([(None, "a", 2, "<")]))))
        self.assertTrue(small.inside(Closure(Net())))
        self.assertFalse(Closure(Net()).inside(small))
        self.assertFalse(small.inside(Closure(Net.box("b", 1, 2))))
        self.assertTrue((small & Closure(Net.box("b", 1, 2))).inside(small))

    def test_equal_to_nothing_else(self):
        closure = Closure(Net.box("a", 1, 2))
        for other in (closure.net(), None, "a", closure.room("a")):
            self.assertFalse(closure == other)

    def test_many(self):
        chance = random.Random(61)
        empty = 0
        for round_ in range(120):
            nets = [open_net(chance, chance.randint(0, 6), chance.choice(["ab", "abc", "bcd", "cd"]))
                    for _ in range(2)]
            one, two = [Closure(net) for net in nets]
            names = sorted({*one.names(), *two.names()})
            spots = [None, *names, "z"]
            self.check_union(one, two, one | two, names, spots)
            pairs = [(first, second) for first in spots for second in spots if first != second]
            inside = all(two.bound(*pair) is None or one.bound(*pair) is not None
                         and rank_of(one.bound(*pair)) <= rank_of(two.bound(*pair)) for pair in pairs)
            self.assertEqual(one.inside(two), inside)
            self.assertEqual(one == two, one.inside(two) and two.inside(one))
            joint = nets[0] + nets[1]
            if not has_world(joint):
                empty += 1
                self.assertRaises(NoNet, lambda: one & two)
                continue
            both = one & two
            self.assertEqual(both.names(), names)
            self.assertTrue(both == Closure(joint))
            for pair in pairs:
                self.assertEqual(both.bound(*pair), Closure(joint).bound(*pair))
        self.assertGreater(empty, 5)

    def check_union(self, one, two, either, names, spots):
        self.assertEqual(either.names(), names)
        for first in spots:
            for second in spots:
                bounds = [one.bound(first, second), two.bound(first, second)]
                expected = None if None in bounds else max(bounds, key=rank_of)
                self.assertEqual(either.bound(first, second), expected)
        for closure in (one, two):
            self.assertTrue(closure.inside(either))

    def test_worlds_of_both(self):
        chance = random.Random(163)
        for round_ in range(30):
            one, two = Closure(open_net(chance, 3, "ab")), Closure(open_net(chance, 3, "ab"))
            either = one | two
            for world in grid_of("ab"):
                if world in one or world in two:
                    self.assertTrue(world in either)
            try:
                both = one & two
            except NoNet:
                continue
            for world in grid_of("ab"):
                self.assertEqual(world in both, world in one and world in two)

    def test_nothing_is_shared(self):
        closure = Closure(Net.box("a", 1, 2))
        names = closure.names()
        names.append("b")
        self.assertEqual((closure | closure).names(), ["a"])
