"""Cancelling: points 39, 40 and 45, compared with a plain elimination."""

import random
from fractions import Fraction
from math import gcd

from metehouse.cancelling import cancel, rank, rings, steady
from metehouse.errors import NotTold
from metehouse.forms import Form
from tests.eliminating import change, plain_rings, quantities, told
from tests.helping import Case

HUGE = 10 ** 30 - 1
a, b, c, d = (Form.one(name) for name in "abcd")


def some_lines(chance, count, names="abcde", top=3):
    lines = []
    for _ in range(count):
        kind = chance.random()
        if lines and kind < 0.2:
            lines.append(chance.choice(lines) * chance.choice([1, -1, 2, -3]) + chance.randint(-2, 2))
        elif len(lines) > 1 and kind < 0.4:
            one, two = chance.sample(lines, 2)
            lines.append(one * chance.randint(-2, 2) + two)
        else:
            picked = chance.sample(names, chance.randint(0, 3))
            lines.append(Form([(name, chance.randint(-top, top)) for name in picked], chance.randint(-9, 9)))
    return lines


class Lines(Case):
    def check_moves(self, lines, target, moves):
        self.assertEqual(sorted(moves), quantities(*lines, target))
        self.assertEqual(gcd(*moves.values()), 1)
        self.assertTrue(all(type(move) is int for move in moves.values()))
        for line in lines:
            self.assertEqual(change(line, moves), 0)
        self.assertGreater(change(target, moves), 0)

    def check_sum(self, lines, target, scale, weights):
        self.assertGreaterEqual(scale, 1)
        self.assertEqual(len(weights), len(lines))
        total = Form()
        for line, weight in zip(lines, weights):
            total = total + line * weight
        self.assertEqual(total.terms, (target * scale).terms)

    def check_cancel(self, lines, target):
        found = cancel(lines, target)
        if told(lines, target):
            self.assertEqual(found[0], "weights")
            _, scale, weights = found
            self.check_sum(lines, target, scale, weights)
            self.assertEqual(gcd(scale, *weights), 1)
        else:
            self.assertEqual((found[0], len(found)), ("shift", 2))
            self.check_moves(lines, target, found[1])
        return found

    def check_steady(self, lines, target):
        spread, scale, weights, moves = steady(lines, target)
        self.check_sum(lines, target, scale, weights)
        self.assertEqual(Fraction(*spread), Fraction(sum(abs(weight) for weight in weights), scale))
        self.assertEqual(gcd(*spread), 1)
        self.assertGreaterEqual(spread[1], 1)
        self.assertEqual(sorted(moves), quantities(*lines, target))
        for top, bottom in moves.values():
            self.assertTrue(bottom >= 1 and gcd(top, bottom) == 1)
        for line in lines:
            self.assertLessEqual(abs(change(line, moves)), 1)
        self.assertEqual(change(target, moves), Fraction(*spread))
        return spread


class TestCancel(Lines):
    def test_told(self):
        lines = [a - b, b - c, a - c]
        self.assertEqual(cancel(lines[:2], a - c), ("weights", 1, [1, 1]))
        self.assertEqual(cancel([2 * a, 3 * b], a + b), ("weights", 6, [3, 2]))
        self.assertEqual(cancel([-a], 5 * a), ("weights", 1, [-5]))
        self.assertEqual(cancel([a, a], b - b), ("weights", 1, [0, 0]))
        self.check_cancel(lines, 7 * a - 7 * c)

    def test_constants_do_not_count(self):
        self.assertEqual(cancel([a - b + 5, b + 3], a - 100), ("weights", 1, [1, 1]))
        self.assertEqual(cancel([Form((), 4)], Form((), 9)), ("weights", 1, [0]))

    def test_not_told(self):
        self.assertEqual(cancel([a - b], b), ("shift", {"a": 1, "b": 1}))
        self.assertEqual(cancel([a - b], -4 * a), ("shift", {"a": -1, "b": -1}))
        self.assertEqual(cancel([], 3 * a), ("shift", {"a": 1}))
        self.check_cancel([2 * a + 3 * b, Form((), 1)], a + c)

    def test_no_lines(self):
        self.assertEqual(cancel([], Form((), 3)), ("weights", 1, []))

    def test_long_integers(self):
        big = 10 ** 29 + 7
        self.check_cancel([HUGE * a + big * b, big * a - HUGE * b], a)
        self.check_cancel([HUGE * a + big * b, 2 * HUGE * a + 2 * big * b], a)
        self.assertEqual(cancel([HUGE * a], a), ("weights", HUGE, [1]))
        self.assertEqual(cancel([a], HUGE * a + HUGE), ("weights", 1, [HUGE]))

    def test_many(self):
        chance = random.Random(39)
        for round_ in range(400):
            lines = some_lines(chance, chance.randint(0, 7), top=chance.choice([1, 3, HUGE]))
            target = some_lines(chance, 1)[0] if chance.random() < 0.5 else sum(
                [line * chance.randint(-2, 2) for line in lines], Form())
            self.check_cancel(lines, target)

    def test_nothing_is_modified_or_shared(self):
        lines, target = [a - b, b], a
        found = cancel(lines, target)
        found[2].append(5)
        shift = cancel(lines[:1], target)[1]
        shift["a"] = 7
        self.assertEqual((lines, target), ([a - b, b], a))
        self.assertEqual(cancel(lines, target), ("weights", 1, [1, 1]))
        self.assertEqual(cancel(lines[:1], target), ("shift", {"a": 1, "b": 1}))


class TestRings(Lines):
    def test_plain(self):
        self.assertEqual(list(rings([a - b, b - c, a - c])), [[-1, -1, 1]])
        self.assertEqual(list(rings([a, a, -a, b, 2 * a - 3 * b])),
                         [[-1, 1, 0, 0, 0], [1, 0, 1, 0, 0], [-2, 0, 0, 3, 1]])
        self.assertEqual(list(rings([a * 2, a * -4, a * 3])), [[2, 1, 0], [-3, 0, 2]])

    def test_edges(self):
        self.assertEqual(list(rings([])), [])
        self.assertEqual(list(rings([Form((), 5)])), [[1]])
        self.assertEqual(list(rings([Form(), a, Form()])), [[1, 0, 0], [0, 0, 1]])
        self.assertEqual(list(rings([a + 1, a + 9])), [[-1, 1]])
        self.assertEqual(list(rings([HUGE * a, a])), [[-1, HUGE]])

    def test_one_by_one(self):
        asked = rings([a, a, b, 3 * b, a + b])
        self.assertEqual(next(asked), [-1, 1, 0, 0, 0])
        first = next(asked)
        self.assertEqual(first, [0, 0, -3, 1, 0])
        first.clear()
        self.assertEqual(next(asked), [-1, 0, -1, 0, 1])
        self.assertRaises(StopIteration, next, asked)

    def test_a_changed_ring_changes_no_later_one(self):
        found = []
        for ring in rings([a, 2 * a, 3 * a]):
            found.append(list(ring))
            ring[0] = 77
        self.assertEqual(found, [[-2, 1, 0], [-3, 0, 1]])

    def test_many(self):
        chance = random.Random(40)
        for round_ in range(300):
            lines = some_lines(chance, chance.randint(0, 8), top=chance.choice([1, 3, HUGE]))
            expected = plain_rings(lines)
            self.assertEqual(list(rings(lines)), expected)
            self.assertEqual(rank(lines), len(lines) - len(expected))

    def test_rank(self):
        self.assertEqual(rank([]), 0)
        self.assertEqual(rank([Form((), 3), a, a, b, a - b]), 2)
        self.assertEqual(rank([a - b, b - c, c - a]), 2)


class TestSteady(Lines):
    def test_plain(self):
        self.assertEqual(self.check_steady([a], 3 * a), (3, 1))
        self.assertEqual(self.check_steady([a, 2 * a], a), (1, 2))
        self.assertEqual(self.check_steady([a - b, b - c, a - c], a - c), (1, 1))
        self.assertEqual(self.check_steady([a - b + 8, b - c - 9], a - c + 4), (2, 1))
        self.assertEqual(self.check_steady([a + b, a - b], a), (1, 1))
        self.assertEqual(self.check_steady([3 * a, 3 * a], a), (1, 3))

    def test_edges(self):
        self.assertEqual(steady([], Form((), 6)), ((0, 1), 1, [], {}))
        self.assertEqual(self.check_steady([a, Form((), 2)], Form((), 6)), (0, 1))
        self.assertEqual(self.check_steady([HUGE * a], a), (1, HUGE))
        self.assertEqual(self.check_steady([Form(), a, a, Form((), -3)], a), (1, 1))

    def test_not_told(self):
        for lines, target in (([a - b], a), ([], a), ([Form((), 1)], -a), ([a - b, b - c], a + b - c)):
            with self.assertRaises(NotTold) as caught:
                steady(lines, target)
            self.check_moves(lines, target, caught.exception.moves)
            self.assertEqual(list(vars(caught.exception)), ["moves"])

    def test_many(self):
        chance = random.Random(45)
        for round_ in range(150):
            lines = some_lines(chance, chance.randint(0, 6), top=chance.choice([1, 3, 50, HUGE]))
            target = some_lines(chance, 1)[0] if chance.random() < 0.3 else sum(
                [line * chance.randint(-2, 2) for line in lines], Form())
            if told(lines, target):
                self.check_steady(lines, target)
            else:
                self.assertRaises(NotTold, steady, lines, target)

    def test_nothing_is_modified_or_shared(self):
        lines = [a - b, b]
        _, _, weights, moves = steady(lines, a)
        weights.clear()
        moves.clear()
        self.assertEqual(lines, [a - b, b])
        self.assertEqual(self.check_steady(lines, a), (2, 1))
