import itertools
import random
import unittest
import unittest.mock

from metehouse import claims
from metehouse.claims import AtMost, Below, Both, Claim, Either, Not, Same, within
from metehouse.errors import NoQuantity, TooDeep, TooWide
from metehouse.forms import Form, make_form
from metehouse.linear import holds
from tests.helping import Case

A, B, C = Form.one("a"), Form.one("b"), Form.one("c")
BIG = 10 ** 29 + 1


def rows(ways):
    return [[(str(form), sign) for form, sign in way] for way in ways]


def plain_rows(claim):
    return rows(claim.ways())


class TestPlain(Case):
    def test_ways(self):
        form = make_form(1, a=2, b=-1)
        self.assertEqual(plain_rows(AtMost(form, 5)), [[("2 a - b - 4", "<=")]])
        self.assertEqual(plain_rows(Below(form, -5)), [[("2 a - b + 6", "<")]])
        self.assertEqual(plain_rows(Same(form)), [[("2 a - b + 1", "=")]])
        self.assertEqual(plain_rows(AtMost(Form())), [[("0", "<=")]])

    def test_ways_of_the_negation(self):
        form = make_form(a=1)
        self.assertEqual(plain_rows(Not(AtMost(form, 5))), [[("-a + 5", "<")]])
        self.assertEqual(plain_rows(Not(Below(form, 5))), [[("-a + 5", "<=")]])
        self.assertEqual(plain_rows(Not(Same(form, 5))), [[("a - 5", "<")], [("-a + 5", "<")]])

    def test_kinds_of_values(self):
        for claim in (AtMost(A), ~Same(A) & Below(B)):
            ways = claim.ways()
            self.assertKind(ways, list)
            for way in ways:
                self.assertKind(way, list)
                for row in way:
                    self.assertKind(row, tuple)
                    self.assertKind(row[0], Form)

    def test_sizes(self):
        for claim in (AtMost(A), Below(A, 3), Same(A - B)):
            self.assertEqual((claim.width, claim.depth), (1, 1))
        self.assertEqual(((~Same(A)).width, (~Same(A)).depth), (2, 2))

    def test_truth_at_the_bound(self):
        for kind, truths in [(AtMost, (True, True, False)), (Below, (True, False, False)), (Same, (False, True, False))]:
            for level, truth in zip([(5, 3), (2, 1), (7, 3)], truths):
                self.assertIs(kind(A, 2)({"a": level}), truth)
                self.assertIs(Not(kind(A, 2))({"a": level}), not truth)
                self.assertIs(kind(A - 2)({"a": level}), truth)

    def test_big_numbers(self):
        self.assertIs(Same(A * BIG, BIG)({"a": (1, 1)}), True)
        self.assertEqual(str(AtMost(-A, -BIG)), f"-a + {BIG} <= 0")


class TestCompound(Case):
    def test_ways_of_both(self):
        claim = Both(Not(Same(A)), AtMost(C), Not(Same(B)))
        self.assertEqual(plain_rows(claim), [
            [("a", "<"), ("c", "<="), ("b", "<")], [("a", "<"), ("c", "<="), ("-b", "<")],
            [("-a", "<"), ("c", "<="), ("b", "<")], [("-a", "<"), ("c", "<="), ("-b", "<")]])
        self.assertEqual(claim.width, 4)

    def test_ways_of_either(self):
        claim = Either(Not(Same(A)), Both(AtMost(B), Below(C)), Both())
        self.assertEqual(plain_rows(claim), [[("a", "<")], [("-a", "<")], [("b", "<="), ("c", "<")], []])
        self.assertEqual(claim.width, 4)

    def test_without_parts(self):
        self.assertEqual((Both().ways(), Either().ways()), ([[]], []))
        self.assertEqual((Not(Both()).ways(), Not(Either()).ways()), ([], [[]]))
        self.assertEqual((Both().width, Either().width, Not(Both()).width), (1, 0, 0))
        self.assertEqual((Both().depth, Either().depth, Not(Both()).depth), (1, 1, 2))
        self.assertIs(Both()({}), True)
        self.assertIs(Either()({}), False)

    def test_ways_of_the_negation(self):
        self.assertEqual(plain_rows(Not(Both(AtMost(A), Same(B)))), [[("-a", "<")], [("b", "<")], [("-b", "<")]])
        self.assertEqual(plain_rows(Not(Either(Same(B), AtMost(A)))), [
            [("b", "<"), ("-a", "<")], [("-b", "<"), ("-a", "<")]])
        self.assertEqual(plain_rows(Not(Not(Same(A)))), [[("a", "=")]])
        self.assertEqual(plain_rows(Not(Not(Not(Same(A))))), [[("a", "<")], [("-a", "<")]])

    def test_operators(self):
        one, two = AtMost(A), Below(B)
        self.assertEqual(str(~one), str(Not(one)))
        self.assertEqual(str(one & two), str(Both(one, two)))
        self.assertEqual(str(one | two), str(Either(one, two)))
        self.assertKind(~one, Not)
        self.assertKind(one & two, Both)
        self.assertKind(one | two, Either)
        self.assertEqual((one & two & one).depth, 3)

    def test_one_part(self):
        self.assertEqual(Both(AtMost(A)).depth, 2)
        self.assertEqual(plain_rows(Both(AtMost(A))), [[("a", "<=")]])


class TestBounds(Case):
    def deep(self, depth):
        claim = AtMost(A)
        for _ in range(depth - 1):
            claim = Both(claim)
        return claim

    def test_depth(self):
        self.assertEqual((Claim.MOST_DEPTH, Claim.MOST_WAYS), (8, 64))
        claim = self.deep(8)
        self.assertEqual(claim.depth, 8)
        self.refused(TooDeep, Not, claim, has={"depth": 9})
        self.refused(TooDeep, Both, AtMost(A), claim, has={"depth": 9})
        self.refused(TooDeep, Either, claim, has={"depth": 9})
        self.assertEqual(Both(self.deep(7), AtMost(A)).depth, 8)

    def test_width(self):
        two = Not(Same(A))
        self.assertEqual(Both(*[two] * 6).width, 64)
        self.refused(TooWide, Both, *[two] * 7, has={"width": 128})
        self.assertEqual(Either(*[two] * 32).width, 64)
        self.refused(TooWide, Either, *[two] * 32, AtMost(A), has={"width": 65})
        self.refused(TooWide, Not, Both(*[Same(A)] * 33), has={"width": 66})
        self.assertEqual(Not(Both(*[Same(A)] * 32)).width, 64)
        self.assertEqual(Not(Either(*[Same(A)] * 6)).width, 64)
        self.refused(TooWide, Not, Either(*[Same(A)] * 7), has={"width": 128})
        self.assertEqual(Either(*[AtMost(A)] * 64).width, 64)
        self.refused(TooWide, lambda: Either(*[AtMost(A)] * 64) | AtMost(A), has={"width": 65})

    def test_depth_comes_first(self):
        wide = Either(*[Same(A)] * 7)
        for _ in range(6):
            wide = Both(wide)
        self.assertEqual(wide.depth, 8)
        self.refused(TooDeep, Not, wide, has={"depth": 9})

    def test_no_ways_at_all_are_not_too_many(self):
        many = [Not(Same(A))] * 40
        claim = Both(*many, Either())
        self.assertEqual((claim.width, claim.ways()), (0, []))
        self.assertEqual(Not(Not(claim)).ways(), [])
        hidden = Not(Either(Either(*[Same(A)] * 60), Both()))
        self.assertEqual((hidden.width, hidden.ways()), (0, []))
        self.assertEqual(Either(hidden, AtMost(B)).ways(), AtMost(B).ways())

    def test_many_parts(self):
        claim = Both(*[AtMost(A, k) for k in range(3000)])
        self.assertEqual((claim.width, len(claim.ways()[0])), (1, 3000))
        self.refused(TooWide, Not, claim, has={"width": 3000})
        self.refused(TooWide, Both, *[Not(Same(A))] * 3000, has={"width": 2 ** 3000})


class TestAsking(Case):
    def setUp(self):
        self.claim = Either(Both(AtMost(B - A), Not(Same(C, 2))), Below(A), Both(AtMost(make_form(q=1))))

    def test_names(self):
        self.assertEqual(self.claim.names(), ("a", "b", "c", "q"))
        self.assertEqual(Both().names(), ())
        self.assertEqual(AtMost(Form()).names(), ())
        self.assertEqual(Not(Same(B - A)).names(), ("a", "b"))

    def test_a_quantity_is_missing_whatever_else_is_said(self):
        self.refused(NoQuantity, self.claim, {}, has={"name": "a"})
        self.refused(NoQuantity, self.claim, {"a": (-5, 1), "b": (0, 1), "c": (0, 1)}, has={"name": "q"})
        self.refused(NoQuantity, Both(AtMost(B), Not(Same(A))), {}, has={"name": "a"})
        self.refused(NoQuantity, Both(Either(), AtMost(A)), {"b": (0, 1)}, has={"name": "a"})
        self.refused(NoQuantity, Either(Both(), AtMost(A)), {"b": (0, 1)}, has={"name": "a"})

    def test_a_world_may_have_more(self):
        self.assertIs(Both()({"a": (1, 2)}), True)
        self.assertIs(AtMost(A)({"a": (-1, 2), "z": (1, 1)}), True)

    def test_put(self):
        put = self.claim.put("a", make_form(3, d=2))
        self.assertEqual(str(put), str(Either(
            Both(AtMost(B - make_form(3, d=2)), Not(Same(C, 2))), Below(make_form(3, d=2)), Both(AtMost(make_form(q=1))))))
        self.assertEqual(self.claim.put("z", A), self.claim)
        self.assertEqual(str(Same(A, 4).put("a", B)), "b - 4 = 0")
        self.assertEqual(str(Not(Below(A, 4)).put("a", B)), "not (b - 4 < 0)")
        self.assertEqual(Both().put("a", B), Both())

    def test_within(self):
        self.assertEqual(str(within(A - B, -3, 5)), "both (-a + b - 3 <= 0) (a - b - 5 <= 0)")
        self.assertKind(within(A, 0, 0), Both)
        self.assertEqual([within(A, 1, 2)({"a": (k, 4)}) for k in (3, 4, 8, 9)], [False, True, True, False])

    def test_written(self):
        self.assertEqual(
            str(self.claim), "either (both (-a + b <= 0) (not (c - 2 = 0))) (a < 0) (both (q <= 0))")
        self.assertEqual((str(Both()), str(Either()), str(Not(Both()))), ("both", "either", "not (both)"))
        self.assertEqual(str(Below(Form(), 3)), "-3 < 0")

    def test_equal(self):
        self.assertEqual(AtMost(A, 3), AtMost(A - 3))
        self.assertNotEqual(AtMost(A), Below(A))
        self.assertNotEqual(Both(AtMost(A)), AtMost(A))
        self.assertNotEqual(AtMost(A) & Below(B), Below(B) & AtMost(A))
        self.assertNotEqual(Both(), Either())
        for other in ("a <= 0", None, A, 0, unittest.mock.ANY):
            self.assertIs(AtMost(A) == other, False)

    def test_kinds(self):
        kinds = (AtMost, Below, Same, Not, Both, Either)
        for one, two in itertools.permutations(kinds, 2):
            self.assertFalse(issubclass(one, two))
        for kind in kinds:
            self.assertTrue(issubclass(kind, Claim))
        for word in ("ways", "names", "put", "__invert__", "__and__", "__or__", "__eq__", "__str__", "__call__"):
            self.assertIn(word, vars(claims.Claim))

    def test_results_are_new(self):
        claim = ~Same(A) & Below(B)
        before = plain_rows(claim)
        ways = claim.ways()
        ways[0].append("x")
        ways.clear()
        self.assertEqual(plain_rows(claim), before)
        self.assertEqual(claim.width, 2)


class Reference:
    """The ways of a claim, straight from their description."""

    def ways(self, text):
        word, rest = text[0], text[1:]
        if word in ("<=", "<", "="):
            return [[(rest[0], word)]]
        if word == "not":
            return self.negated(rest[0])
        lists = [self.ways(part) for part in rest]
        if word == "either":
            return [way for ways in lists for way in ways]
        return [[row for way in choice for row in way] for choice in itertools.product(*lists)]

    def negated(self, text):
        word, rest = text[0], text[1:]
        if word == "<=":
            return [[(-rest[0], "<")]]
        if word == "<":
            return [[(-rest[0], "<=")]]
        if word == "=":
            return [[(rest[0], "<")], [(-rest[0], "<")]]
        if word == "not":
            return self.ways(rest[0])
        parts = [("not", part) for part in rest]
        return self.ways(("either" if word == "both" else "both", *parts))


class TestManyClaims(Case):
    def make(self, chance, depth):
        word = chance.choice(["<=", "<", "="] if depth < 2 else ["<=", "=", "not", "both", "either", "both", "either"])
        if word in ("<=", "<", "="):
            form = Form([(name, chance.randint(-2, 2)) for name in "abc"], chance.randint(-2, 2))
            return {"<=": AtMost, "<": Below, "=": Same}[word](form), (word, form)
        count = 1 if word == "not" else chance.randint(0, 3)
        made = [self.make(chance, depth - 1) for _ in range(count)]
        kind = {"not": Not, "both": Both, "either": Either}[word]
        return kind(*[claim for claim, _ in made]), (word, *[text for _, text in made])

    def test_ways_and_truth(self):
        chance = random.Random(11)
        tried = 0
        while tried < 300:
            try:
                claim, text = self.make(chance, 5)
            except TooWide:
                continue
            tried += 1
            expected = rows(Reference().ways(text))
            self.assertEqual(plain_rows(claim), expected)
            self.assertEqual(claim.width, len(expected))
            for _ in range(5):
                world = {name: (chance.randint(-2, 2), 1) for name in "abc"}
                self.assertIs(claim(world), any(holds(way, world) for way in claim.ways()))


if __name__ == "__main__":
    unittest.main()
