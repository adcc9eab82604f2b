"""Strikes: points 49 to 51 and, of point 52, the rises and the residues; compared with plain searches."""

import random
from fractions import Fraction
from itertools import product

from metehouse.claims import Either, Same
from metehouse.errors import BadName, BadNumber, NoBlock, NoQuantity, NoWalk, Taken, TooMany
from metehouse.forms import Form
from metehouse.strikes import Strikes
from tests.helping import Case

EXAMPLE = Strikes(("a", "b", 1), ("b", "c", 2), ("c", "d", 2), ("d", "b", 0))
HUGE = 10 ** 30 - 1


def some_strikes(chance, count, names="abcdef", top=3):
    rows = []
    for _ in range(count):
        first, second = chance.sample(names, 2)
        rows.append((first, second, chance.randint(0, top)))
    return Strikes(*rows)


def end_of(rows, walk, start):
    """The quantity that a list of indexes leads to, or None if it is no walk."""
    for index in walk:
        if start not in rows[index][:2]:
            return None
        start = rows[index][1] if rows[index][0] == start else rows[index][0]
    return start


def plain_walk(rows, first, second):
    """The first of all walks of the least length, None if there is none."""
    for length in range(len(rows) + 1):
        for walk in product(range(len(rows)), repeat=length):
            if end_of(rows, walk, first) == second:
                return list(walk)
    return None


def rounds_of(rows):
    """The sets of the strikes of all rounds, as point 51 says what a round is."""
    found = set()

    def go_on(start, name, passed, used):
        for index, row in enumerate(rows):
            if index in used or name not in row[:2]:
                continue
            other = row[1] if row[0] == name else row[0]
            if other == start and used:
                found.add(frozenset(used + [index]))
            elif other != start and other not in passed:
                go_on(start, other, passed + [other], used + [index])

    for start in {name for row in rows for name in row[:2]}:
        go_on(start, start, [], [])
    return found


def plain_blocks(rows):
    rounds = rounds_of(rows)
    found = []
    for index in range(len(rows)):
        block = sorted(other for other in range(len(rows))
                       if other == index or any(index in one and other in one for one in rounds))
        if block not in found:
            found.append(block)
    return found


class TestStrikes(Case):
    def test_rows(self):
        rows = [("b", "a", 3), ("a.1", "b", 0), ("b", "a", 3)]
        strikes = Strikes(*rows)
        self.assertEqual(strikes.rows, tuple(rows))
        self.assertKind(strikes.rows, tuple)
        self.assertEqual((len(strikes), strikes.names()), (3, ["a", "a.1", "b"]))
        strikes.names().clear()
        self.assertEqual(strikes.names(), ["a", "a.1", "b"])
        none = Strikes()
        self.assertEqual((none.rows, len(none), none.names(), none.claims()), ((), 0, [], []))

    def test_errors(self):
        good = ("a", "b", 1)
        self.refused(TooMany, Strikes, *[("A", "A", -1)] * 11, has={"what": "strikes", "most": 10})
        self.assertEqual(len(Strikes(*[good] * 10)), 10)
        self.refused(BadName, Strikes, good, ("A", "B", -1), ("C", "a", 1), has={"name": "A"})
        self.refused(BadName, Strikes, ("a", "b.", -1), has={"name": "b."})
        self.refused(BadName, Strikes, ("a", None, 1), has={"name": None})
        self.refused(Taken, Strikes, good, ("b", "b", -1), ("A", "b", 1), has={"name": "b"})
        self.refused(BadNumber, Strikes, good, ("a", "b", -1), ("A", "b", 1), has={"number": -1})
        self.refused(BadName, Strikes, ("A", "A", -1), has={"name": "A"})

    def test_sum(self):
        one, two = Strikes(("a", "b", 1), ("b", "c", 2)), Strikes(("a", "b", 1))
        self.assertEqual((one + two).rows, (("a", "b", 1), ("b", "c", 2), ("a", "b", 1)))
        self.assertEqual((Strikes() + Strikes()).rows, ())
        five = Strikes(*[("a", "b", 1)] * 5)
        self.assertEqual(len(five + five), 10)
        self.refused(TooMany, lambda: five + five + two, has={"what": "strikes", "most": 10})
        self.assertRaises(TypeError, lambda: one + one.rows)
        self.assertEqual((one.rows, len(five)), ((("a", "b", 1), ("b", "c", 2)), 5))

    def test_equal(self):
        one = Strikes(("a", "b", 1), ("b", "c", 2))
        self.assertTrue(one == Strikes(("a", "b", 1), ("b", "c", 2)))
        self.assertTrue(Strikes() == Strikes())
        for other in (Strikes(("b", "c", 2), ("a", "b", 1)), Strikes(("b", "a", 1), ("b", "c", 2)), Strikes(),
                      one.rows, None, [("a", "b", 1)]):
            self.assertFalse(one == other)

    def test_claims(self):
        claims = Strikes(("b", "a", 3), ("a", "c", 0)).claims()
        self.assertEqual(claims, [Either(Same(Form.gap("a", "b"), 3), Same(Form.gap("b", "a"), 3)),
                                  Either(Same(Form.gap("c", "a"), 0), Same(Form.gap("a", "c"), 0))])
        self.assertEqual(str(claims[0]), "either (a - b - 3 = 0) (-a + b - 3 = 0)")

    def test_lots(self):
        strikes = Strikes(("d", "c", 1), ("a", "f", 2), ("e", "d", 0), ("f", "a", 1), ("b", "z", 1))
        self.assertEqual(strikes.lots(), [["a", "f"], ["b", "z"], ["c", "d", "e"]])
        self.assertEqual(Strikes().lots(), [])
        lots = strikes.lots()
        lots[0].append("x")
        self.assertEqual(strikes.lots()[0], ["a", "f"])


class TestWalks(Case):
    def test_plain(self):
        self.assertEqual(EXAMPLE.walk("a", "d"), [0, 3])
        self.assertEqual(EXAMPLE.walk("d", "a"), [3, 0])
        self.assertEqual(EXAMPLE.walk("c", "c"), [])
        two = Strikes(("a", "b", 1), ("a", "b", 2), ("c", "b", 1))
        self.assertEqual((two.walk("a", "b"), two.walk("b", "a"), two.walk("a", "c")), ([0], [0], [0, 2]))
        two.walk("a", "b").clear()
        self.assertEqual(two.walk("a", "b"), [0])

    def test_the_least_of_the_shortest(self):
        strikes = Strikes(("c", "d", 1), ("b", "d", 1), ("a", "b", 1), ("a", "c", 1))
        self.assertEqual((strikes.walk("a", "d"), strikes.walk("d", "a")), ([2, 1], [0, 3]))

    def test_errors(self):
        strikes = Strikes(("a", "b", 1), ("c", "d", 2))
        self.refused(NoQuantity, strikes.walk, "x", "y", has={"name": "x"})
        self.refused(NoQuantity, strikes.walk, "a", "y", has={"name": "y"})
        self.refused(NoQuantity, strikes.walk, "y", "y", has={"name": "y"})
        self.refused(NoWalk, strikes.walk, "a", "d", has={"first": "a", "second": "d"})
        self.refused(NoWalk, strikes.walk, "d", "b", has={"first": "d", "second": "b"})
        self.refused(NoQuantity, Strikes().walk, "a", "a", has={"name": "a"})

    def test_many(self):
        chance = random.Random(50)
        for round_ in range(60):
            strikes = some_strikes(chance, chance.randint(1, 5), "abcd")
            for first in strikes.names():
                for second in strikes.names():
                    expected = plain_walk(strikes.rows, first, second)
                    if expected is None:
                        self.assertRaises(NoWalk, strikes.walk, first, second)
                    else:
                        self.assertEqual(strikes.walk(first, second), expected)

    def test_ten_strikes(self):
        rows = [("n0", "n1", 1)] * 5 + [("n1", "n2", 1), ("n2", "n3", 1), ("n3", "n4", 1), ("n4", "n5", 1),
                                        ("n5", "n0", 1)]
        self.assertEqual(Strikes(*rows).walk("n0", "n3"), [0, 5, 6])
        self.assertEqual(Strikes(*rows).walk("n3", "n0"), [6, 5, 0])


class TestBlocks(Case):
    def test_plain(self):
        self.assertEqual((EXAMPLE.blocks(), EXAMPLE.joints()), ([[0], [1, 2, 3]], ["b"]))
        self.assertEqual((Strikes().blocks(), Strikes().joints()), ([], []))
        self.assertEqual(Strikes(("a", "b", 1), ("b", "a", 2)).blocks(), [[0, 1]])
        self.assertEqual(Strikes(("a", "b", 1), ("b", "a", 2)).joints(), [])

    def test_rounds_that_share_one_quantity(self):
        strikes = Strikes(("a", "b", 1), ("a", "d", 1), ("b", "c", 1), ("d", "e", 1), ("c", "a", 1), ("e", "a", 1))
        self.assertEqual((strikes.blocks(), strikes.joints()), ([[0, 2, 4], [1, 3, 5]], ["a"]))

    def test_rounds_that_share_a_strike(self):
        strikes = Strikes(("a", "b", 1), ("b", "c", 1), ("c", "a", 1), ("c", "d", 1), ("d", "a", 1))
        self.assertEqual((strikes.blocks(), strikes.joints()), ([[0, 1, 2, 3, 4]], []))

    def test_block(self):
        self.assertEqual(EXAMPLE.block(1), Strikes(("b", "c", 2), ("c", "d", 2), ("d", "b", 0)))
        self.assertEqual(EXAMPLE.block(0), Strikes(("a", "b", 1)))
        for index in (2, -1, 99):
            self.refused(NoBlock, EXAMPLE.block, index, has={"index": index})
        self.refused(NoBlock, Strikes().block, 0, has={"index": 0})

    def test_many(self):
        chance = random.Random(51)
        for round_ in range(200):
            strikes = some_strikes(chance, chance.randint(0, 9), "abcdefg"[:chance.randint(2, 7)])
            blocks = strikes.blocks()
            self.assertEqual(blocks, plain_blocks(strikes.rows))
            joints = [name for name in strikes.names()
                      if sum(any(name in strikes.rows[k][:2] for k in block) for block in blocks) > 1]
            self.assertEqual(strikes.joints(), joints)
            for index, block in enumerate(blocks):
                self.assertEqual(strikes.block(index).rows, tuple(strikes.rows[k] for k in block))

    def test_nothing_is_shared(self):
        blocks = EXAMPLE.blocks()
        blocks[1].clear()
        EXAMPLE.joints().clear()
        self.assertEqual((EXAMPLE.blocks(), EXAMPLE.joints()), ([[0], [1, 2, 3]], ["b"]))


class TestWorlds(Case):
    def test_rises_and_residues(self):
        strikes = Strikes(("a", "b", 3), ("b", "c", 0), ("c", "a", HUGE))
        world = {"a": (1, 2), "b": (-7, 3), "c": (-7, 3), "more": (0, 1)}
        self.assertEqual(strikes.rises(world), (-1, 0, 1))
        self.assertEqual(strikes.residues(world), ((-1, 6), (0, 1), (17 - 6 * HUGE, 6)))
        self.assertEqual((Strikes().rises({}), Strikes().residues({})), ((), ()))

    def test_missing_levels(self):
        strikes = Strikes(("d", "c", 3), ("b", "c", 0))
        for call in (strikes.rises, strikes.residues):
            self.refused(NoQuantity, call, {"d": (0, 1)}, has={"name": "b"})
            self.refused(NoQuantity, call, {"b": (0, 1), "c": (0, 1)}, has={"name": "d"})

    def test_many(self):
        chance = random.Random(52)
        for round_ in range(50):
            strikes = some_strikes(chance, 4, "abcd")
            levels = {name: Fraction(chance.randint(-6, 6), chance.randint(1, 3)) for name in "abcd"}
            world = {name: (level.numerator, level.denominator) for name, level in levels.items()}
            gaps = [levels[second] - levels[first] for first, second, _ in strikes.rows]
            self.assertEqual(strikes.rises(world), tuple((gap > 0) - (gap < 0) for gap in gaps))
            rest = [abs(gap) - row[2] for gap, row in zip(gaps, strikes.rows)]
            self.assertEqual(strikes.residues(world), tuple((one.numerator, one.denominator) for one in rest))
