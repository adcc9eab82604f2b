"""Nets: points 57 to 59, compared with plain searches over all chains of small nets."""

import random
from math import gcd

from metehouse.claims import AtMost, Below
from metehouse.errors import BadName, BadNumber, BadSign, NoNet, NoQuantity, Taken
from metehouse.forms import Form
from metehouse.nets import SIGNS, Net, gap_form
from tests.helping import Case
from tests.netting import has_world, is_chain, is_ring, linear_bound, open_net, plain_bound, some_net, sum_of

HUGE = 10 ** 30 - 1


class Nets(Case):
    def check_levels(self, net):
        world = net.levels()
        self.assertEqual(sorted(world), net.names())
        for top, bottom in world.values():
            self.assertTrue(bottom >= 1 and gcd(top, bottom) == 1)
        for claim in net.claims():
            self.assertTrue(claim(world))

    def refused_net(self, net, call, *args):
        with self.assertRaises(NoNet) as caught:
            call(*args)
        self.assertEqual(list(vars(caught.exception)), ["ring"])
        self.assertTrue(is_ring(net, caught.exception.ring))


class TestNet(Nets):
    def test_limits(self):
        limits = [("b", "a", 3, "<="), (None, "b", -2, "<"), ("a.1", None, 0, "<=")]
        net = Net(limits)
        self.assertEqual((net.limits, net.names()), (tuple(limits), ["a", "a.1", "b"]))
        limits.clear()
        net.names().clear()
        self.assertEqual((len(net.limits), net.names()), (3, ["a", "a.1", "b"]))
        self.assertEqual((Net().limits, Net([]).names(), Net().claims()), ((), [], []))

    def test_claims(self):
        net = Net([("b", "a", 3, "<="), (None, "b", -2, "<"), ("a", None, 5, "<="), ("a", "b", 0, "<")])
        a, b = Form.one("a"), Form.one("b")
        self.assertEqual(net.claims(), [AtMost(a - b, 3), Below(b, -2), AtMost(-a, 5), Below(b - a)])
        net.claims().clear()
        self.assertEqual(len(net.claims()), 4)

    def test_errors(self):
        good = ("a", "b", 1, "<=")
        self.refused(BadName, Net, [good, ("A", "B", 1, "="), ("C", "a", 1, "<")], has={"name": "A"})
        self.refused(BadName, Net, [("a", "b.", 1, "=")], has={"name": "b."})
        self.refused(BadName, Net, [(None, "", 1, "=")], has={"name": ""})
        self.refused(BadName, Net, [("A", "A", 1, "<")], has={"name": "A"})
        self.refused(BadName, Net, [(0, "a", 1, "<")], has={"name": 0})
        self.refused(Taken, Net, [good, ("b", "b", 1, "="), ("C", "a", 1, "<")], has={"name": "b"})
        self.refused(Taken, Net, [(None, None, 1, "=")], has={"name": None})
        for sign in ("=", ">", "", None, "=<", 1):
            self.refused(BadSign, Net, [good, ("a", None, 1, sign), ("C", "a", 1, "<")], has={"sign": sign})

    def test_sum_and_equal(self):
        one, two = Net([("a", "b", 1, "<=")]), Net([(None, "b", 2, "<")])
        self.assertEqual((one + two).limits, (("a", "b", 1, "<="), (None, "b", 2, "<")))
        self.assertTrue(one + two == Net([("a", "b", 1, "<="), (None, "b", 2, "<")]))
        self.assertTrue(Net() + Net() == Net())
        self.assertRaises(TypeError, lambda: one + [])
        for other in (two + one, one, Net([("a", "b", 1, "<"), (None, "b", 2, "<")]), (one + two).limits, None):
            self.assertFalse(one + two == other)

    def test_box(self):
        self.assertEqual(Net.box("a", 2, 7).limits, ((None, "a", 7, "<="), ("a", None, -2, "<=")))
        self.assertEqual(Net.box("a", None, 7).limits, ((None, "a", 7, "<="),))
        self.assertEqual(Net.box("a", 2, None).limits, (("a", None, -2, "<="),))
        self.assertEqual(Net.box("a", None, None), Net())
        self.assertEqual(Net.box("a", 0, 0).limits, ((None, "a", 0, "<="), ("a", None, 0, "<=")))
        self.refused(BadName, Net.box, "A", 0, 1, has={"name": "A"})
        self.refused(Taken, Net.box, None, None, 1, has={"name": None})
        self.refused(Taken, Net.box, None, 1, None, has={"name": None})
        self.assertEqual(Net.box(None, None, None), Net())
        self.refused_net(Net.box("a", 3, 2), Net.box("a", 3, 2).levels)

    def test_fence(self):
        self.assertEqual(Net.fence("w", 3, 2).limits, (("w.0", "w.1", 2, "<="), ("w.1", "w.0", 2, "<="),
                                                       ("w.1", "w.2", 2, "<="), ("w.2", "w.1", 2, "<=")))
        self.assertEqual(Net.fence("w", 1, 0), Net())
        self.assertEqual(len(Net.fence("abcdefgh", 20, 0).limits), 38)
        self.assertEqual(Net.fence("abcdefgh", 20, 0).limits[-1], ("abcdefgh.19", "abcdefgh.18", 0, "<="))
        self.refused(BadName, Net.fence, "w1", 0, -1, has={"name": "w1"})
        self.refused(BadNumber, Net.fence, "w", 0, -1, has={"number": 0})
        self.refused(BadNumber, Net.fence, "w", 21, -1, has={"number": 21})
        self.refused(BadNumber, Net.fence, "w", 1, -1, has={"number": -1})


class TestRings(Nets):
    def test_strict_rings_of_sum_0(self):
        for first, second in (("a", "b"), (None, "b"), ("a", None)):
            for signs in (("<", "<="), ("<=", "<"), ("<", "<")):
                net = Net([(first, second, 3, signs[0]), (second, first, -3, signs[1])])
                self.assertTrue(is_ring(net, net.find_ring()))
            net = Net([(first, second, 3, "<="), (second, first, -3, "<=")])
            self.assertIsNone(net.find_ring())
            self.check_levels(net)
            self.assertTrue(is_ring(net + net + Net([(first, second, 2, "<=")]),
                                    (net + net + Net([(first, second, 2, "<=")])).find_ring()))

    def test_long_rings(self):
        limits = [(f"n{k}", f"n{(k + 1) % 30}", 1 if k else -29, "<=") for k in range(30)]
        self.assertIsNone(Net(limits).find_ring())
        self.check_levels(Net(limits))
        limits[17] = (*limits[17][:3], "<")
        ring = Net(limits).find_ring()
        self.assertTrue(is_ring(Net(limits), ring))
        self.assertEqual(len(ring), 30)
        self.assertTrue(is_ring(Net(limits[::-1]), Net(limits[::-1]).find_ring()))

    def test_strict_limits_one_after_another(self):
        names = [None, *[f"n{k}" for k in range(9)]]
        for sign in SIGNS:
            for turn in (1, -1):
                ends = names[::turn]
                limits = [(first, second, 0, "<") for first, second in zip(ends, ends[1:])]
                self.check_levels(Net([*limits, (ends[-1], ends[0], 1, sign)]))
                self.refused_net(Net([*limits, (ends[-1], ends[0], 0, sign)]),
                                 Net([*limits, (ends[-1], ends[0], 0, sign)]).levels)

    def test_many(self):
        chance = random.Random(59)
        seen = {True: 0, False: 0}
        for round_ in range(400):
            net = some_net(chance, chance.randint(0, 8), "abcde"[:chance.randint(2, 5)], chance.choice([1, 3, HUGE]))
            ring = net.find_ring()
            seen[has_world(net)] += 1
            if has_world(net):
                self.assertIsNone(ring)
                self.check_levels(net)
            else:
                self.assertTrue(is_ring(net, ring))
                self.refused_net(net, net.levels)
                names = [None, *net.names()]
                self.refused_net(net, net.bound, chance.choice(names), chance.choice(names))
                self.refused_net(net, net.chain, chance.choice(names), chance.choice(names))
        self.assertGreater(min(seen.values()), 50)

    def test_order_of_errors(self):
        net = Net([("a", "b", 1, "<"), ("b", "a", -1, "<=")])
        for call in (net.bound, net.chain):
            self.refused(NoQuantity, call, "y", "x", has={"name": "y"})
            self.refused(NoQuantity, call, "a", "x", has={"name": "x"})
            self.refused(NoQuantity, call, None, "x", has={"name": "x"})
            self.refused(NoQuantity, call, "x", "x", has={"name": "x"})
            self.refused_net(net, call, "a", "a")
            self.refused_net(net, call, None, None)

    def test_nothing_is_shared(self):
        net = Net([("a", "b", 1, "<"), ("b", "a", -1, "<=")])
        net.find_ring().clear()
        self.assertTrue(is_ring(net, net.find_ring()))


class TestBounds(Nets):
    def check_bound(self, net, first, second, expected):
        found, chain = net.bound(first, second), net.chain(first, second)
        self.assertEqual(found, expected)
        if first == second:
            self.assertEqual((found, chain), ((0, "<="), []))
        elif found is None:
            self.assertIsNone(chain)
        else:
            self.assertKind(chain, list)
            self.assertTrue(is_chain(net, chain, first, second))
            self.assertEqual(sum_of(net, chain), found)

    def test_plain(self):
        net = Net.fence("w", 3, 2) + Net([("w.0", "w.2", 3, "<")])
        self.check_bound(net, "w.0", "w.2", (3, "<"))
        self.check_bound(net, "w.2", "w.0", (4, "<="))
        self.check_bound(net, None, "w.0", None)
        self.check_bound(net, None, None, (0, "<="))
        self.check_bound(net, "w.1", "w.1", (0, "<="))

    def test_the_ground(self):
        net = Net.box("a", 1, 5) + Net([("a", "b", 2, "<"), (None, "c", 4, "<=")])
        self.check_bound(net, None, "b", (7, "<"))
        self.check_bound(net, "b", None, None)
        self.check_bound(net, "a", "c", (3, "<="))
        self.check_bound(net, "c", "b", None)
        self.check_levels(net)

    def test_equal_integers(self):
        net = Net([("a", "b", 5, "<="), ("a", "c", 2, "<"), ("c", "b", 3, "<="), ("a", "d", 4, "<"), ("d", "b", 2, "<")])
        self.check_bound(net, "a", "b", (5, "<"))
        self.assertEqual(net.chain("a", "b"), [1, 2])

    def test_without_limits(self):
        self.assertEqual((Net().levels(), Net().find_ring(), Net().bound(None, None)), ({}, None, (0, "<=")))
        self.assertEqual(Net().chain(None, None), [])
        self.refused(NoQuantity, Net().bound, None, "a", has={"name": "a"})
        self.refused(NoQuantity, Net().chain, "a", None, has={"name": "a"})

    def test_many(self):
        chance = random.Random(159)
        missing = 0
        for round_ in range(150):
            names = "abcd"[:chance.randint(2, 4)]
            net = open_net(chance, chance.randint(0, 7), names) if chance.random() < 0.7 else some_net(
                chance, chance.randint(0, 6), names)
            if net.find_ring() is not None:
                continue
            self.check_levels(net)
            for first in [None, *net.names()]:
                for second in [None, *net.names()]:
                    expected = (0, "<=") if first == second else plain_bound(net, first, second)
                    missing += expected is None
                    self.check_bound(net, first, second, expected)
                    if first != second:
                        by_rows = linear_bound(net, gap_form(first, second))
                        self.assertEqual(by_rows, expected and ((expected[0], 1), expected[1]))
        self.assertGreater(missing, 20)

    def test_sixty_limits(self):
        chance = random.Random(259)
        net = open_net(chance, 60, [f"n{k}" for k in range(15)])
        self.assertIsNone(net.find_ring())
        self.check_levels(net)
        for first, second in (("n0", "n9"), (None, "n3"), ("n7", None)):
            found = linear_bound(net, gap_form(first, second))
            self.check_bound(net, first, second, found and (found[0][0], found[1]))

    def test_nothing_is_shared(self):
        net = Net.box("a", 1, 5)
        net.levels().clear()
        net.chain(None, "a").clear()
        self.assertEqual(net.chain(None, "a"), [0])
        self.check_levels(net)
