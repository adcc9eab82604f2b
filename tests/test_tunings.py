"""Tunings: points 52 and 53, compared with all tuples of rises, each tried by itself."""

import random
from itertools import product

from metehouse.claims import Same
from metehouse.errors import NoBlock, NoQuantity, NoWalk
from metehouse.forms import Form
from metehouse.linear import settle
from metehouse.strikes import Strikes
from metehouse.tunings import count_tunings, possible_beats, tunings, turned
from tests.helping import Case
from tests.test_strikes import HUGE, some_strikes


def is_tuning(strikes, rises):
    """True if some world has these rises and all strikes are exact in it."""
    rows = []
    for (first, second, count), rise in zip(strikes.rows, rises):
        if (rise == 0) != (count == 0):
            return False
        rows += Same(Form.gap(second, first), rise * count).ways()[0]
    return settle(rows)[0] == "world"


def all_tunings_of(strikes):
    return [rises for rises in product((-1, 0, 1), repeat=len(strikes)) if is_tuning(strikes, rises)]


class TestTunings(Case):
    def check_tunings(self, strikes):
        found = list(tunings(strikes))
        for rises, world in found:
            self.assertKind(rises, tuple)
            self.assertEqual(sorted(world), strikes.names())
            self.assertEqual(strikes.rises(world), rises)
            self.assertEqual(strikes.residues(world), ((0, 1),) * len(strikes))
            for lot in strikes.lots():
                self.assertEqual(world[lot[0]], (0, 1))
        return [rises for rises, _ in found]

    def test_plain(self):
        strikes = Strikes(("a", "b", 1), ("b", "c", 2), ("a", "c", 3))
        self.assertEqual(list(tunings(strikes)), [
            ((-1, -1, -1), {"a": (0, 1), "b": (-1, 1), "c": (-3, 1)}),
            ((1, 1, 1), {"a": (0, 1), "b": (1, 1), "c": (3, 1)})])
        self.assertEqual(list(tunings(Strikes())), [((), {})])
        self.assertEqual(list(tunings(Strikes(("b", "a", 0)))), [((0,), {"a": (0, 1), "b": (0, 1)})])
        self.assertEqual(list(tunings(Strikes(("b", "a", 2)))),
                         [((-1,), {"a": (0, 1), "b": (2, 1)}), ((1,), {"a": (0, 1), "b": (-2, 1)})])

    def test_no_tuning(self):
        self.assertEqual(list(tunings(Strikes(("a", "b", 1), ("a", "b", 2)))), [])
        self.assertEqual(count_tunings(Strikes(("a", "b", 1), ("a", "b", 2), ("c", "d", 1))), 0)
        self.assertEqual(list(tunings(Strikes(("a", "b", 0), ("b", "a", 1), ("c", "d", 1)))), [])

    def test_many(self):
        chance = random.Random(53)
        sizes = set()
        for round_ in range(80):
            strikes = some_strikes(chance, chance.randint(0, 5), "abcde"[:chance.randint(2, 5)])
            expected = all_tunings_of(strikes)
            self.assertEqual(self.check_tunings(strikes), expected)
            self.assertEqual(count_tunings(strikes), len(expected))
            sizes.add(min(len(expected), 8))
        self.assertGreaterEqual(sizes, {0, 1, 2, 4, 8})

    def test_long_counts(self):
        strikes = Strikes(("a", "b", HUGE), ("b", "c", HUGE - 1), ("c", "a", 1))
        self.assertEqual(self.check_tunings(strikes), [(-1, 1, 1), (1, -1, -1)])

    def test_ten_strikes(self):
        chain = Strikes(*[(f"n{k}", f"n{k + 1}", k + 1) for k in range(10)])
        found = self.check_tunings(chain)
        self.assertEqual(found, list(product((-1, 1), repeat=10)))
        self.assertEqual(count_tunings(chain), 1024)
        wheel = Strikes(*[("n0", f"n{k}", 1) for k in range(1, 6)], *[(f"n{k}", f"n{k % 5 + 1}", 2 * (k % 2))
                                                                     for k in range(1, 6)])
        found = self.check_tunings(wheel)
        self.assertEqual(len(found), count_tunings(wheel))

    def test_one_by_one(self):
        asked = tunings(Strikes(("a", "b", 1)))
        rises, world = next(asked)
        world["a"] = (9, 1)
        world.clear()
        self.assertEqual(rises, (-1,))
        self.assertEqual(next(asked), ((1,), {"a": (0, 1), "b": (1, 1)}))
        self.assertRaises(StopIteration, next, asked)

    def test_the_entries_of_the_blocks(self):
        strikes = Strikes(("a", "b", 1), ("b", "c", 2), ("c", "b", 2), ("c", "d", 0), ("x", "y", 3))
        found = self.check_tunings(strikes)
        parts = [self.check_tunings(strikes.block(index)) for index in range(len(strikes.blocks()))]
        expected = []
        for choice in product(*parts):
            rises = [None] * len(strikes)
            for block, entries in zip(strikes.blocks(), choice):
                for index, entry in zip(block, entries):
                    rises[index] = entry
            expected.append(tuple(rises))
        self.assertEqual(found, sorted(expected))
        self.assertEqual(count_tunings(strikes), 8)
        self.assertEqual(count_tunings(Strikes()), 1)


class TestTurned(Case):
    def test_plain(self):
        strikes = Strikes(("a", "b", 1), ("b", "c", 2), ("c", "b", 2), ("c", "d", 0))
        self.assertEqual(turned(strikes, (1, -1, 1, 0), 0), (-1, -1, 1, 0))
        self.assertEqual(turned(strikes, (1, -1, 1, 0), 1), (1, 1, -1, 0))
        self.assertEqual(turned(strikes, (1, -1, 1, 0), 2), (1, -1, 1, 0))
        self.assertKind(turned(strikes, (1, -1, 1, 0), 2), tuple)
        for index in (3, -1):
            self.refused(NoBlock, turned, strikes, (1, -1, 1, 0), index, has={"index": index})
        self.refused(NoBlock, turned, Strikes(), (), 0, has={"index": 0})

    def test_many(self):
        chance = random.Random(153)
        for round_ in range(30):
            strikes = some_strikes(chance, chance.randint(1, 6), "abcd", 2)
            found = [rises for rises, _ in tunings(strikes)]
            for rises in found:
                for index in range(len(strikes.blocks())):
                    once = turned(strikes, rises, index)
                    self.assertIn(once, found)
                    self.assertEqual(turned(strikes, once, index), rises)


class TestBeats(Case):
    def test_plain(self):
        strikes = Strikes(("a", "b", 1), ("b", "c", 2), ("x", "y", 1))
        self.assertEqual(possible_beats(strikes, "a", "c"), [1, 3])
        self.assertEqual(possible_beats(strikes, "c", "a"), [1, 3])
        self.assertEqual(possible_beats(strikes, "b", "b"), [0])
        self.assertEqual(possible_beats(Strikes(("a", "b", 1), ("b", "c", 1)), "a", "c"), [0, 2])

    def test_no_tuning(self):
        strikes = Strikes(("a", "b", 1), ("x", "y", 1), ("x", "y", 2))
        self.assertEqual(possible_beats(strikes, "a", "b"), [])
        self.assertEqual(possible_beats(strikes, "a", "a"), [])
        self.refused(NoQuantity, possible_beats, strikes, "c", "d", has={"name": "c"})
        self.refused(NoQuantity, possible_beats, strikes, "a", "d", has={"name": "d"})
        self.refused(NoWalk, possible_beats, strikes, "a", "x", has={"first": "a", "second": "x"})

    def test_many(self):
        chance = random.Random(253)
        for round_ in range(40):
            strikes = some_strikes(chance, chance.randint(1, 6), "abcd", 2)
            first, second = chance.choice(strikes.names()), chance.choice(strikes.names())
            worlds = [world for _, world in tunings(strikes)]
            if any(first in lot and second in lot for lot in strikes.lots()):
                expected = sorted({abs(world[first][0] - world[second][0]) for world in worlds})
                self.assertEqual(possible_beats(strikes, first, second), expected)
            else:
                self.assertRaises(NoWalk, possible_beats, strikes, first, second)
