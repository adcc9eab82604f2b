"""Spans: points 85 to 87; compared with all cases, and with worlds at, between and beyond the ends."""

import random
from itertools import product

from metehouse.cases import find_world
from metehouse.claims import AtMost, Below, Both, Either, Same
from metehouse.errors import BadNumber, TooMany, TooWide
from metehouse.forks import Fork
from metehouse.forms import Form
from metehouse.gauges import Gauge
from metehouse.house import House
from metehouse.judging import word
from metehouse.pieces import Pieces
from metehouse.racks import Rack
from metehouse.ranks import ranked, worst_miss
from metehouse.spans import MOST_PIECES, rank_span, signings, span, value_to_ask
from tests.helping import Case
from tests.housing import all_quantities, all_trees, gauge_house, has_world, is_right, plain_fits, plain_span, some_claim
from tests.housing import some_form, some_house
from tests.sampling import candidates, ends_of, faults
from tests.test_house import contents

A, B, X = Form.one("a"), Form.one("b"), Form.one("x")


def points_house(count, step=2):
    """A house whose level x has so many values."""
    house = House()
    house.learn(Either(*[Same(X, step * number) for number in range(count)]), "s")
    return house


class TestSpan(Case):
    def check(self, house, form, *given):
        """The span is right; its pieces."""
        before = contents(house)
        pieces, tree = span(house, form, *given)
        self.assertKind(pieces, Pieces)
        self.assertEqual(faults(pieces.parts), [])
        self.assertTrue(is_right(house, tree, *given, (~pieces).claim(form)))
        for value in candidates(ends_of(pieces)):
            world = find_world(house, *given, Pieces.point(value).claim(form))
            self.assertEqual(world is not None, value in pieces, value)
            if world is not None:
                self.assertEqual(form(world), value)
        self.assertEqual(contents(house), before)
        return pieces

    def test_most_pieces(self):
        self.assertEqual(MOST_PIECES, 12)

    def test_small_houses(self):
        empty = 0
        for seed in range(200):
            chance = random.Random(seed)
            house = some_house(chance, ["a", "b"], instruments=3, facts=1)
            given = [some_claim(chance, ["a", "b", "d"], 1) for _ in range(chance.choice([0, 0, 1]))]
            form = some_form(chance, ["a", "b", "d"])
            found = self.check(house, form, *given)
            self.assertEqual(found, plain_span(house, form, *given), seed)
            empty += not found
        self.assertLess(empty, 150)

    def test_no_world(self):
        house = gauge_house([0, 0], [1, 2], 0)
        self.assertEqual(self.check(house, X), Pieces.none())
        self.assertEqual(self.check(House(), X, Either()), Pieces.none())

    def test_every_value_and_forms_without_terms(self):
        self.assertEqual(self.check(House(), X), Pieces.every())
        self.assertEqual(self.check(House(), Form((), 4)), Pieces.point((4, 1)))
        self.assertEqual(self.check(House(), 2 * X - 1, AtMost(X)), Pieces((None, False, (-1, 1), True)))
        self.assertEqual(self.check(House(), X, Below(3 * X, 1)), Pieces((None, False, (1, 3), False)))

    def test_open_and_closed_ends_that_meet(self):
        below, above = Below(X), Below(-X)
        self.assertEqual(str(self.check(House(), X, Either(below, above))), "(.., 0) (0, ..)")
        self.assertEqual(str(self.check(House(), X, Either(below, above, Same(X)))), "(.., ..)")
        self.assertEqual(str(self.check(House(), X, Either(Same(X, 3), Both(below, Below(-1 - X))))), "(-1, 0) [3, 3]")

    def test_twelve_and_thirteen_pieces(self):
        self.assertEqual(len(self.check(points_house(12), X)), 12)
        for count in (13, 14, 40, 64):
            self.refused(TooWide, span, points_house(count), X, has={"width": 13})
        house = points_house(13)
        self.assertEqual(len(self.check(house, X, Below(X, 24))), 12)
        self.assertEqual(len(self.check(house, X, ~Same(X, 4))), 12)

    def test_many_pieces_that_grow_together(self):
        house = House()
        ways = [Both(AtMost(2 * number - X), AtMost(X, 2 * number + 1)) for number in range(30)]
        house.learn(Either(*ways, AtMost(59 - X), *[Both(AtMost(2 * number + 1 - X), AtMost(X, 2 * number + 2)) for number in range(30)]),
                    "s")
        self.assertEqual(str(self.check(house, X)), "[0, ..)")
        gauges = gauge_house([2] * 24, [5 * number for number in range(24)], 23)
        self.refused(TooWide, span, gauges, X, has={"width": 13})
        gauges = gauge_house([3] * 24, [5 * number for number in range(24)], 23)
        self.assertEqual(str(self.check(gauges, X)), "[-3, 118]")

    def test_pieces_that_are_found_far_from_each_other(self):
        for bits, room, text in ((5, 1, "[0, 32]"), (4, 0, None), (3, 0, None), (5, 0, None)):
            house = House()
            total = Form()
            for bit in range(bits):
                own = Form.one(f"b{bit}")
                house.learn(Either(Same(own), Same(own, 2 ** bit)), "s")
                total = total + own
            house.learn(Both(AtMost(total - X), AtMost(X - total - room)), "s")
            if text is not None:
                self.assertEqual(str(self.check(house, X)), text)
            elif bits == 3:
                self.assertEqual(str(self.check(house, X)), " ".join(f"[{number}, {number}]" for number in range(8)))
            else:
                self.refused(TooWide, span, house, X, has={"width": 13})

    def test_values_to_ask(self):
        def points(count, step=2):
            return Pieces(*[((step * k, 1), True, (step * k, 1), True) for k in range(count)])
        self.assertIsNone(value_to_ask(points(12), []))
        for count in (13, 14, 20):
            found = points(count)
            missing = []
            for _ in range(12):
                value = value_to_ask(found, missing)
                self.assertFalse(value in found)
                self.assertTrue(0 < value[0] < 2 * (count - 1) * value[1])
                self.assertEqual(len({other[0] // other[1] // 2 for other in [*missing, value]}), len(missing) + 1)
                missing.append(value)
            self.refused(TooWide, value_to_ask, found, missing, has={"width": 13})
            outside = [(-1, 1), (2 * count, 1)] + missing[1:]
            self.assertFalse(value_to_ask(found, outside) in found)
            self.assertFalse(value_to_ask(found, [missing[0]] * 12) in found)

    def test_racks(self):
        chance = random.Random(29)
        for _ in range(12):
            radii = [chance.randint(0, 5) for _ in range(12)]
            told = [chance.randint(0, 25) for _ in radii]
            gauges = [Gauge(name, X, radius=radius) for name, radius in zip("abcdefghijkl", radii)]
            readings = dict(zip("abcdefghijkl", told))
            for most in (0, 6, 8, 9, 11, 12):
                found = Rack(*gauges).possible(readings, most)
                if len(found) <= 12:
                    self.assertEqual(self.check(gauge_house(radii, told, most), X), found)

    def test_paths_of_forks(self):
        house = House()
        for number in range(6):
            house.place(Fork("abcdef"[number], Form.one(f"q{number}"), Form.one(f"q{number + 1}")), "s")
            house.read("abcdef"[number], 1)
        found = self.check(house, Form.gap("q6", "q0"))
        self.assertEqual(str(found), " ".join(f"[{value}, {value}]" for value in range(-6, 7, 2)))

    def test_sums_that_are_too_many(self):
        house = House()
        for number in range(8):
            house.place(Fork("abcdefgh"[number], Form.one(f"q{number}"), Form.one(f"q{number + 1}")), "s")
            house.read("abcdefgh"[number], 3 ** number)
        self.refused(TooWide, span, house, Form.gap("q8", "q0"), has={"width": 13})

    def test_results_are_new(self):
        house = gauge_house([1], [5], 0)
        _, tree = span(house, X)
        for here in all_trees(tree):
            if here[0] in ("weights", "split"):
                here[-1].clear()
        self.assertEqual(self.check(house, X), Pieces.between(4, 6))


class TestRankSpan(Case):
    def test_the_union_over_all_indexes(self):
        for seed in range(60):
            chance = random.Random(seed)
            house = some_house(chance, ["a", "b", "c"], instruments=3, facts=1)
            forms = [some_form(chance, ["a", "b", "c"]) for _ in range(chance.randint(1, 3))]
            place = chance.randrange(len(forms))
            expected = Pieces.none()
            for index, form in enumerate(forms):
                expected = expected | plain_span(house, form - A, ranked(forms, place, index))
            self.assertEqual(rank_span(house, place, A, *forms), expected, seed)

    def test_worst_miss(self):
        for radii in ([2], [1, 4, 2], [0, 0, 3], [2, 1, 5, 3], [10 ** 29, 1]):
            for liars in range(len(radii) + 1):
                house = House()
                house.allow("p", liars)
                for name, radius in zip("abcd", radii):
                    house.place(Gauge(name, Form.gap(name, "x"), radius=radius), "s", "p")
                    house.read(name, 0)
                for place in range(len(radii)):
                    above, below = worst_miss(radii, place, liars)
                    found = rank_span(house, place, X, *[Form.one(name) for name in "abcd"[:len(radii)]])
                    low = None if below is None else (-below, 1)
                    high = None if above is None else (above, 1)
                    self.assertEqual(found, Pieces((low, below is not None, high, above is not None)), (radii, liars, place))

    def test_errors(self):
        house = gauge_house([1], [5], 0)
        self.refused(BadNumber, rank_span, house, 0, X, has={"number": 0})
        self.refused(BadNumber, rank_span, house, -4, X, has={"number": -4})
        self.refused(BadNumber, rank_span, house, 2, X, A, B, has={"number": 2})
        self.refused(BadNumber, rank_span, house, -1, X, A, B, has={"number": -1})
        many = [Form.one(f"q{number}") for number in range(9)]
        self.refused(TooWide, rank_span, house, 4, X, *many, has={"width": 70})
        self.refused(TooWide, rank_span, points_house(13), 0, Form(), X, A, has={"width": 13})
        self.assertEqual(len(rank_span(points_house(12), 0, Form(), X)), 12)

    def test_no_world(self):
        self.assertEqual(rank_span(gauge_house([0, 0], [1, 2], 0), 0, Form(), X, A), Pieces.none())


class TestSignings(Case):
    def sign(self, form, world):
        top = form(world)[0]
        return (top > 0) - (top < 0)

    def plain(self, house, forms):
        rows = {-1: Below, 0: Same}
        for signs in product((-1, 0, 1), repeat=len(forms)):
            claims = [Below(-form) if sign == 1 else rows[sign](form) for form, sign in zip(forms, signs)]
            if has_world(house, *claims):
                yield signs

    def check(self, house, *forms):
        before = contents(house)
        found = list(signings(house, *forms))
        for signs, world in found:
            self.assertTrue(plain_fits(house, world))
            self.assertEqual(tuple(self.sign(form, world) for form in forms), signs)
            self.assertEqual(sorted(world), all_quantities(house, *forms))
        self.assertEqual(contents(house), before)
        return [signs for signs, _ in found]

    def test_each_tuple_by_itself(self):
        for seed in range(80):
            chance = random.Random(seed)
            house = some_house(chance, ["a", "b"], instruments=2, facts=1)
            forms = [some_form(chance, ["a", "b", "d"]) for _ in range(chance.randint(0, 3))]
            found = self.check(house, *forms)
            self.assertEqual(found, list(self.plain(house, forms)), seed)
            for signs in product((-1, 0, 1), repeat=len(forms)):
                claims = [[Same(form), Below(-form), Below(form)][sign] for form, sign in zip(forms, signs)]
                self.assertEqual(signs in found, word(house, Both(*claims)) in ("open", "sure"))

    def test_no_forms(self):
        house = gauge_house([1], [5], 0)
        self.assertEqual(self.check(house), [()])
        self.assertEqual(list(signings(House())), [((), {})])
        self.assertEqual(list(signings(gauge_house([0, 0], [1, 2], 0))), [])
        self.assertEqual(list(signings(gauge_house([0, 0], [1, 2], 0), A, B)), [])

    def test_four_and_five_forms(self):
        forms = [Form.one(name) for name in "abcde"]
        self.assertEqual(self.check(House(), *forms[:4]), list(product((-1, 0, 1), repeat=4)))
        call = signings(House(), *forms)
        self.refused(TooMany, next, call, has={"what": "forms", "most": 4})
        self.assertEqual(self.check(House(), A, A, -A), [(-1, -1, 1), (0, 0, 0), (1, 1, -1)])

    def test_left_after_the_first_pair(self):
        house = gauge_house([3], [0], 1)
        before = contents(house)
        call = signings(house, X, A)
        self.assertEqual(next(call)[0], (-1, -1))
        call.close()
        self.assertEqual(contents(house), before)
        self.assertEqual(next(signings(house, X, A))[0], (-1, -1))

    def test_yielded_worlds_are_new(self):
        house = gauge_house([3], [0], 1)
        expected = [(signs, dict(world)) for signs, world in signings(house, X, A)]
        found = []
        for signs, world in signings(house, X, A):
            found.append((signs, dict(world)))
            world.clear()
        self.assertEqual(found, expected)
