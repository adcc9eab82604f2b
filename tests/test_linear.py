import random
import unittest

from metehouse.errors import NoQuantity
from metehouse.exact import compare, plus, ratio, times
from metehouse.forms import Form, make_form
from metehouse.linear import closes, greatest, holds, settle
from tests.helping import Case

A, B, C = Form.one("a"), Form.one("b"), Form.one("c")
BIG = 10 ** 29 + 11
SIGNS = ("<=", "<", "=")


def names_of(rows, *forms):
    return {name for form in [form for form, _ in rows] + list(forms) for name in form.names()}


class Answers(Case):
    """What makes an answer right."""

    def check_world(self, rows, names, world):
        self.assertEqual(set(world), names)
        for level in world.values():
            self.assertEqual(level, ratio(*level))
            self.assertGreaterEqual(level[1], 1)
        self.assertTrue(holds(rows, world))

    def check_weights(self, rows, weights):
        self.assertKind(weights, list)
        self.assertTrue(all(type(weight) is int for weight in weights))
        self.assertTrue(closes(rows, weights))

    def check_settled(self, rows):
        """The answer of settle, found right."""
        found = settle(rows)
        self.assertEqual(len(found), 2)
        if found[0] == "world":
            self.check_world(rows, names_of(rows), found[1])
        else:
            self.assertEqual(found[0], "weights")
            self.check_weights(rows, found[1])
        return found[0]

    def check_free(self, rows, form, found):
        _, world, moves = found
        self.check_world(rows, names_of(rows, form), world)
        self.assertEqual(set(moves), set(world))
        self.assertTrue(all(type(move) is int for move in moves.values()))
        for factor in [(1, 1), (BIG, 1), (1, BIG), (7, 3)]:
            moved = {name: plus(world[name], times((moves[name], 1), factor)) for name in world}
            self.assertTrue(holds(rows, moved))
            self.assertEqual(compare(form(moved), form(world)), 1)

    def check_bound(self, rows, form, value, scale, weights):
        self.assertGreaterEqual(scale, 1)
        self.assertEqual(len(weights), len(rows))
        total = Form()
        for (row, sign), weight in zip(rows, weights):
            self.assertTrue(sign == "=" or weight >= 0)
            total = total + row * weight
        self.assertEqual(total.terms, (form * scale).terms)
        self.assertEqual(ratio(form.constant * scale - total.constant, scale), value)

    def check_greatest(self, rows, form):
        """The answer of greatest, found right."""
        found = greatest(rows, form)
        names = names_of(rows, form)
        if found[0] == "none":
            self.assertEqual(len(found), 2)
            self.check_weights(rows, found[1])
        elif found[0] == "free":
            self.check_free(rows, form, found)
        elif found[0] == "most":
            _, value, world, scale, weights = found
            self.check_world(rows, names, world)
            self.assertEqual(form(world), value)
            self.check_bound(rows, form, value, scale, weights)
        else:
            _, value, world, edge, scale, weights = found
            self.assertEqual(found[0], "below")
            self.check_world(rows, names, world)
            self.check_world([(row, "<=" if sign == "<" else sign) for row, sign in rows], names, edge)
            self.assertEqual(form(edge), value)
            self.check_bound(rows, form, value, scale, weights)
            self.assertTrue(any(sign == "<" and weight > 0 for (_, sign), weight in zip(rows, weights)))
        return found[0]


class TestHolds(Case):
    def test_signs(self):
        for top, truths in [(-1, (True, True, False)), (0, (True, False, True)), (1, (False, False, False))]:
            for sign, truth in zip(SIGNS, truths):
                self.assertIs(holds([(A - B, sign)], {"a": (top, 3), "b": (0, 1)}), truth)

    def test_all_rows(self):
        rows = [(A - 2, "<="), (B, "="), (-A, "<")]
        self.assertIs(holds(rows, {"a": (2, 1), "b": (0, 1), "z": (1, 1)}), True)
        self.assertIs(holds(rows, {"a": (2, 1), "b": (1, 9)}), False)
        self.assertIs(holds(rows, {"a": (0, 1), "b": (0, 1)}), False)

    def test_no_rows_and_no_terms(self):
        self.assertIs(holds([], {}), True)
        self.assertIs(holds([(Form((), -1), "<"), (Form(), "<="), (Form(), "=")], {}), True)
        self.assertIs(holds([(Form(), "<")], {}), False)
        self.assertIs(holds([(Form((), BIG), "<=")], {}), False)

    def test_missing_quantities(self):
        rows = [(Form((), 1), "<="), (C, "<="), (B - A, "=")]
        self.refused(NoQuantity, holds, rows, {}, has={"name": "a"})
        self.refused(NoQuantity, holds, rows, {"a": (0, 1), "c": (5, 1)}, has={"name": "b"})
        self.refused(NoQuantity, holds, rows, {"a": (0, 1), "b": (5, 1)}, has={"name": "c"})


class TestCloses(Case):
    def test_right_weights(self):
        rows = [(A - B, "<="), (B - C, "<"), (C - A, "=")]
        self.assertIs(closes(rows, [1, 1, 1]), True)
        self.assertIs(closes(rows, [BIG, BIG, BIG]), True)
        self.assertIs(closes([(A - 1, "="), (A - 2, "=")], [1, -1]), True)
        self.assertIs(closes([(Form((), 1), "<=")], [1]), True)
        self.assertIs(closes([(Form((), -3), "=")], [-2]), True)
        self.assertIs(closes([(Form(), "<")], [1]), True)

    def test_wrong_weights(self):
        rows = [(A - B, "<="), (B - C, "<"), (C - A, "=")]
        for weights in ([1, 1], [1, 1, 1, 0], [], [0, 0, 0], [1, 0, 1], [2, 1, 1], [-1, -1, -1]):
            self.assertIs(closes(rows, weights), False, weights)
        self.assertIs(closes([(A - B, "<="), (B - A, "<=")], [1, 1]), False)
        self.assertIs(closes([(A - B - 1, "<="), (B - A, "<")], [1, 1]), False)
        self.assertIs(closes([(A, "<="), (-A + 1, "<=")], [-1, -1]), False)
        self.assertIs(closes([(A - 1, "="), (A - 2, "=")], [-1, 1]), False)
        self.assertIs(closes([(Form(), "<="), (Form(), "=")], [1, 1]), False)
        self.assertIs(closes([], []), False)
        self.assertIs(closes([], [1]), False)
        self.assertIs(closes([(Form((), 2), "=")], [-1]), False)
        self.assertIs(closes([(Form(), "<"), (Form((), -1), "=")], [1, 1]), False)

    def test_a_strict_row_needs_weight(self):
        rows = [(A, "<="), (-A, "<="), (B, "<")]
        self.assertIs(closes(rows, [1, 1, 0]), False)
        self.assertIs(closes([(A, "<"), (-A, "<=")], [1, 1]), True)


class TestSettle(Answers):
    def test_small_cases(self):
        self.assertEqual(settle([]), ("world", {}))
        self.assertEqual(self.check_settled([(Form(), "<=")]), "world")
        self.assertEqual(self.check_settled([(Form(), "<")]), "weights")
        self.assertEqual(self.check_settled([(Form((), -1), "=")]), "weights")
        self.assertEqual(self.check_settled([(Form((), 1), "=")]), "weights")
        self.assertEqual(self.check_settled([(Form((), BIG), "<=")]), "weights")
        self.assertEqual(self.check_settled([(A, "<"), (-A, "<")]), "weights")
        self.assertEqual(self.check_settled([(A, "<="), (-A, "<=")]), "world")
        self.assertEqual(self.check_settled([(A, "<"), (-A - 1, "<")]), "world")
        self.assertEqual(self.check_settled([(2 * A - 1, "="), (A * BIG - B, "=")]), "world")

    def test_strict_rows_around_a_fraction(self):
        rows = [(3 * A - 1, "<"), (-3 * BIG * A + BIG - 1, "<"), (B - A, "="), (7 * C - A - B, "<")]
        self.assertEqual(self.check_settled(rows), "world")
        self.assertEqual(self.check_settled(rows + [(3 * B - 1, "=")]), "weights")

    def test_long_chains(self):
        forms = [Form.one(f"q{number}") for number in range(12)]
        rows = [(one - two + 1, "<=") for one, two in zip(forms, forms[1:])]
        self.assertEqual(self.check_settled(rows), "world")
        self.assertEqual(self.check_settled(rows + [(forms[11] - forms[0] - 11, "<=")]), "world")
        self.assertEqual(self.check_settled(rows + [(forms[11] - forms[0] - 11, "<")]), "weights")
        self.assertEqual(self.check_settled(rows + [(forms[11] - forms[0] - 10, "=")]), "weights")

    def test_rows_are_not_changed(self):
        rows = [(A - B, "<="), (B, "<")]
        settle(rows)
        greatest(rows, A)
        self.assertEqual(rows, [(A - B, "<="), (B, "<")])


class TestGreatest(Answers):
    def test_most(self):
        rows = [(A + B - 3, "<="), (B + 1, "="), (-A, "<")]
        self.assertEqual(self.check_greatest(rows, 2 * A + 5), "most")
        self.assertEqual(greatest(rows, 2 * A + 5)[1], (13, 1))
        self.assertEqual(greatest([(3 * A - 2, "<=")], A)[1], (2, 3))

    def test_below(self):
        rows = [(3 * A - 2, "<"), (B - A, "<=")]
        self.assertEqual(self.check_greatest(rows, A + B - 1), "below")
        self.assertEqual(greatest(rows, A + B - 1)[1], (1, 3))
        self.assertEqual(self.check_greatest([(A - 1, "<="), (A - 1, "<")], A), "below")

    def test_a_strict_row_that_does_not_count(self):
        rows = [(A - 1, "<="), (A - 2, "<"), (B, "<")]
        self.assertEqual(self.check_greatest(rows, A), "most")

    def test_free(self):
        self.assertEqual(self.check_greatest([], A), "free")
        self.assertEqual(self.check_greatest([(A - B, "<")], A), "free")
        self.assertEqual(self.check_greatest([(A - B, "="), (C, "<=")], 5 * A - 7), "free")
        self.assertEqual(self.check_greatest([(A, "<=")], A + B), "free")
        self.assertEqual(self.check_greatest([(A, "<=")], -A), "free")

    def test_none(self):
        self.assertEqual(self.check_greatest([(A, "<"), (-A, "<=")], B), "none")
        self.assertEqual(self.check_greatest([(Form(), "<")], Form((), 3)), "none")

    def test_forms_without_terms(self):
        self.assertEqual(greatest([], Form((), -BIG)), ("most", (-BIG, 1), {}, 1, []))
        self.assertEqual(self.check_greatest([(A, "<")], Form()), "most")
        self.assertEqual(self.check_greatest([(A, "<"), (Form(), "<=")], A - A + 4), "most")

    def test_big_numbers(self):
        rows = [(BIG * A - 1, "<="), (-A - BIG, "<="), (B * BIG - A, "<")]
        self.assertEqual(self.check_greatest(rows, A + B), "below")
        self.assertEqual(greatest(rows, A)[1], (1, BIG))


class TestManyRows(Answers):
    """Rows of all signs, also repeated ones and ones that contradict one another."""

    def make_form(self, chance, names, size):
        terms = [(chance.choice(names), chance.randint(-size, size)) for _ in range(chance.randint(0, 4))]
        return Form(terms, chance.randint(-size, size))

    def make_rows(self, chance, names, size):
        rows = []
        for _ in range(chance.randint(0, 9)):
            rows.append((self.make_form(chance, names, size), chance.choice(SIGNS)))
        if rows and chance.random() < 0.3:
            rows.append(chance.choice(rows))
        if rows and chance.random() < 0.2:
            form, sign = chance.choice(rows)
            rows.append((-form, chance.choice(SIGNS)))
        return rows

    def make_true_rows(self, chance, names, size):
        """Rows that hold in a world, often just so."""
        world = {name: (chance.randint(-9, 9), chance.randint(1, 3)) for name in names}
        rows = []
        for _ in range(chance.randint(1, 9)):
            form = self.make_form(chance, names, size)
            top, bottom = form(world)
            slack = chance.choice([0, 0, 1, 5])
            sign = chance.choice(("<=", "=") if slack == 0 else ("<=", "<"))
            rows.append((form * bottom - top - slack, sign))
        return rows

    def test_answers(self):
        chance = random.Random(3)
        counts = {}
        for _ in range(2500):
            names = "abcdef"[:chance.randint(1, 6)]
            size = chance.choice([1, 2, 6, BIG])
            make = chance.choice([self.make_rows, self.make_true_rows])
            rows = make(chance, names, size)
            word = self.check_settled(rows)
            self.assertTrue(word == "world" or make == self.make_rows)
            found = self.check_greatest(rows, self.make_form(chance, names + "z", size))
            self.assertEqual(found == "none", word == "weights")
            counts[found] = counts.get(found, 0) + 1
        for word in ("none", "free", "most", "below"):
            self.assertGreater(counts[word], 20)

    def test_greater_systems(self):
        chance = random.Random(8)
        names = [f"q{number}" for number in range(16)]
        for make in (self.make_true_rows, self.make_rows):
            rows = [row for _ in range(6) for row in make(chance, names, 3)]
            self.check_settled(rows)
            self.check_greatest(rows, Form([(name, chance.randint(-3, 3)) for name in names]))


if __name__ == "__main__":
    unittest.main()
