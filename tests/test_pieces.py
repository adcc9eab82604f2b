import itertools
import random
import unittest
import unittest.mock
from fractions import Fraction

from metehouse.claims import AtMost, Below, Both, Either
from metehouse.errors import BadLimit, BadNumber, BadStretch, NoValue, TooWide
from metehouse.forms import Form, make_form
from metehouse.pieces import Pieces, fewest_missing, shared
from tests.helping import Case
from tests.sampling import belongs, candidates, ends_of, faults, pair

A = Form.one("a")
BIG = 10 ** 29 + 9


def stretch(low, low_in, high, high_in):
    """A stretch of integers or fractions."""
    return (None if low is None else pair(low), low_in, None if high is None else pair(high), high_in)


def any_stretch(chance):
    """A stretch with a value, often with ends that others have, too."""
    while True:
        ends = []
        for _ in range(2):
            value = Fraction(chance.randint(-4, 4), chance.choice([1, 1, 2, 3]))
            ends.append(None if chance.random() < 0.15 else value)
        low, high = ends
        if low is not None and high is not None and low > high:
            low, high = high, low
        found = stretch(low, low is not None and chance.random() < 0.5, high, high is not None and chance.random() < 0.5)
        if low is None or high is None or low < high or found[1] and found[3]:
            return found


def any_set(chance):
    return [any_stretch(chance) for _ in range(chance.randint(0, 4))]


class SetCase(Case):
    def same_values(self, found, has, values):
        """The set is right at the values, and its pieces are as they should be."""
        self.assertEqual(faults(found.parts), [])
        for value in values:
            self.assertIs(value in found, bool(has(value)), (str(found), value))


class TestMaking(SetCase):
    def test_touching_and_overlapping(self):
        for stretches, text in [
                ([stretch(2, True, 3, False), stretch(0, True, 2, False)], "[0, 3)"),
                ([stretch(0, True, 2, False), stretch(2, False, 3, True)], "[0, 2) (2, 3]"),
                ([stretch(0, True, 2, True), stretch(2, False, 3, True)], "[0, 3]"),
                ([stretch(0, True, 2, False), stretch(2, False, 3, True), stretch(2, True, 2, True)], "[0, 3]"),
                ([stretch(0, False, 1, False), stretch(0, True, 0, True)], "[0, 1)"),
                ([stretch(0, True, 9, True), stretch(1, False, 2, False)], "[0, 9]"),
                ([stretch(None, False, 0, False), stretch(0, True, None, False)], "(.., ..)"),
                ([stretch(None, False, 0, False), stretch(0, False, None, False)], "(.., 0) (0, ..)"),
                ([stretch(5, True, 5, True)] * 3, "[5, 5]"), ([], "none"),
                ([stretch(None, False, 3, True), stretch(Fraction(7, 2), True, 5, False)], "(.., 3] [7/2, 5)")]:
            for order in itertools.permutations(stretches):
                found = Pieces(*order)
                self.assertEqual(str(found), text)
                self.assertEqual(faults(found.parts), [])
                self.assertKind(found.parts, tuple)

    def test_kept_as_given(self):
        one, two = stretch(Fraction(-1, 3), False, 0, True), stretch(BIG, True, None, False)
        self.assertEqual(Pieces(two, one).parts, (one, two))
        self.assertEqual(list(Pieces(two, one)), [one, two])

    def test_bad_stretches(self):
        good = stretch(0, True, 1, True)
        for bad in [stretch(1, True, 0, True), stretch(1, True, 1, False), stretch(1, False, 1, True),
                    stretch(1, False, 1, False), stretch(None, True, 1, True), stretch(1, True, None, True),
                    stretch(None, False, None, True), stretch(None, True, None, True),
                    stretch(Fraction(1, 2), True, Fraction(1, 3), True), stretch(BIG, True, BIG - 1, True)]:
            self.refused(BadStretch, Pieces, bad, has={"stretch": bad})
            self.refused(BadStretch, Pieces, good, bad, stretch(2, True, 0, True), has={"stretch": bad})

    def test_static_methods(self):
        self.assertEqual(Pieces.none().parts, ())
        self.assertEqual(Pieces.every().parts, ((None, False, None, False),))
        self.assertEqual(Pieces.point((-7, 2)).parts, (((-7, 2), True, (-7, 2), True),))
        self.assertEqual(Pieces.between(-3, BIG).parts, (((-3, 1), True, (BIG, 1), True),))
        self.assertEqual(Pieces.between(4, 4), Pieces.point((4, 1)))
        bad = ((5, 1), True, (4, 1), True)
        self.refused(BadStretch, Pieces.between, 5, 4, has={"stretch": bad})

    def test_many_sets_at_their_ends(self):
        chance = random.Random(1)
        for _ in range(400):
            stretches = any_set(chance)
            values = candidates(ends_of(stretches))
            self.same_values(Pieces(*stretches), lambda value: any(belongs(s, value) for s in stretches), values)


class TestOperators(SetCase):
    def test_two_sets(self):
        chance = random.Random(2)
        for _ in range(400):
            one, two = Pieces(*any_set(chance)), Pieces(*any_set(chance))
            values = candidates(ends_of(one, two))
            self.same_values(one & two, lambda value: value in one and value in two, values)
            self.same_values(one | two, lambda value: value in one or value in two, values)
            self.same_values(one - two, lambda value: value in one and value not in two, values)
            self.same_values(~one, lambda value: value not in one, values)
            self.assertEqual(~~one, one)
            self.assertEqual(one - two, one & ~two)
            self.assertIs(one.inside(two), not one - two)
            self.assertIs(one == two, all((value in one) == (value in two) for value in values))

    def test_none_and_every(self):
        some = Pieces.between(1, 2)
        self.assertEqual((~Pieces.none(), ~Pieces.every()), (Pieces.every(), Pieces.none()))
        self.assertEqual((some & Pieces.every(), some | Pieces.none()), (some, some))
        self.assertEqual((some | Pieces.every(), some & Pieces.none()), (Pieces.every(), Pieces.none()))
        self.assertEqual(str(Pieces.every() - some), "(.., 1) (2, ..)")
        self.assertEqual(str(~Pieces.point((1, 3))), "(.., 1/3) (1/3, ..)")

    def test_inside(self):
        some = Pieces(stretch(0, False, 1, False))
        self.assertIs(some.inside(Pieces.between(0, 1)), True)
        self.assertIs(Pieces.between(0, 1).inside(some), False)
        self.assertIs(some.inside(some), True)
        self.assertIs(Pieces.none().inside(Pieces.none()), True)
        self.assertIs(Pieces.every().inside(~Pieces.point((0, 1))), False)

    def test_equal(self):
        self.assertEqual(Pieces(stretch(0, True, 1, False), stretch(1, True, 2, True)), Pieces.between(0, 2))
        self.assertNotEqual(Pieces(stretch(0, True, 1, False)), Pieces.between(0, 1))
        for other in (None, 0, (), (stretch(0, True, 1, True),), unittest.mock.ANY):
            self.assertIs(Pieces.between(0, 1) == other, False)

    def test_nothing_is_changed(self):
        one, two = Pieces.between(0, 4), Pieces.between(3, 9)
        one |= two
        self.assertEqual((str(one), str(two)), ("[0, 9]", "[3, 9]"))


class TestAsking(SetCase):
    def test_length_truth_and_iteration(self):
        some = Pieces(stretch(3, True, None, False), stretch(1, True, 2, True))
        self.assertEqual((len(some), len(Pieces.none()), len(Pieces.every())), (2, 0, 1))
        self.assertEqual((bool(some), bool(Pieces.none()), bool(Pieces.every())), (True, False, True))
        self.assertEqual([str(Pieces(part)) for part in some], ["[1, 2]", "[3, ..)"])

    def test_written(self):
        self.assertEqual(str(Pieces(stretch(Fraction(-7, 2), False, BIG, True))), f"(-7/2, {BIG}]")
        self.assertEqual(str(Pieces.none()), "none")
        self.assertEqual(str(Pieces.every()), "(.., ..)")

    def test_claim(self):
        form = make_form(1, a=2)
        some = Pieces(stretch(None, False, 3, True), stretch(Fraction(7, 2), True, 5, False),
                      stretch(Fraction(16, 3), False, None, False))
        expected = Either(
            Both(AtMost(form - 3)), Both(AtMost(7 - 2 * form), Below(form - 5)), Both(Below(16 - 3 * form)))
        self.assertEqual(some.claim(form), expected)
        self.assertEqual(Pieces(stretch(0, False, Fraction(1, 2), True)).claim(A), Either(Both(Below(-A), AtMost(2 * A - 1))))
        self.assertEqual(Pieces.none().claim(A), Either())
        self.assertEqual(Pieces.every().claim(A), Either(Both()))

    def test_claim_says_the_set(self):
        chance = random.Random(3)
        for _ in range(100):
            some = Pieces(*any_set(chance))
            for value in candidates(ends_of(some)):
                self.assertIs(Either(some.claim(A), Below(A - A))({"a": value}), value in some)

    def test_claim_of_many_pieces(self):
        points = [stretch(number, True, number, True) for number in range(65)]
        self.assertEqual(Pieces(*points[:64]).claim(A).width, 64)
        self.refused(TooWide, Pieces(*points).claim, A, has={"width": 65})

    def test_grown(self):
        some = Pieces(stretch(0, True, 1, False), stretch(4, False, Fraction(9, 2), True))
        self.assertEqual(str(some.grown(0, 0)), "[0, 1) (4, 9/2]")
        self.assertEqual(str(some.grown(1, 0)), "[-1, 1) (3, 9/2]")
        self.assertEqual(str(some.grown(1, 2)), "[-1, 3) (3, 13/2]")
        self.assertEqual(str(some.grown(2, 2)), "[-2, 13/2]")
        self.assertEqual(str(some.grown(BIG, 0)), f"[{-BIG}, 9/2]")
        self.assertEqual(Pieces.none().grown(5, 5), Pieces.none())
        self.assertEqual(Pieces.every().grown(5, 5), Pieces.every())
        self.assertEqual(str(Pieces(stretch(None, False, 0, False)).grown(1, 2)), "(.., 2)")
        self.assertEqual(str(Pieces(stretch(0, False, None, False)).grown(1, 2)), "(-1, ..)")
        self.assertEqual(str(Pieces.point((1, 3)).grown(0, 1)), "[1/3, 4/3]")

    def test_grown_is_the_set_of_sums(self):
        chance = random.Random(4)
        for _ in range(150):
            some = Pieces(*any_set(chance))
            below, above = chance.randint(0, 2), chance.randint(0, 2)
            grown = some.grown(below, above)

            def has(value):
                reach = Pieces.between(-above, below)
                top, bottom = value
                ends = [stretch(*(Fraction(*end) + Fraction(top, bottom) if type(end) is tuple else end for end in part))
                        for part in reach]
                return some & Pieces(*ends)
            self.same_values(grown, has, candidates(ends_of(grown, some)))

    def test_grown_by_negative_numbers(self):
        self.refused(BadNumber, Pieces.none().grown, -1, -2, has={"number": -1})
        self.refused(BadNumber, Pieces.every().grown, 0, -2, has={"number": -2})

    def test_some(self):
        for one in [stretch(0, True, 1, True), stretch(0, False, 1, False), stretch(0, False, 1, True),
                    stretch(None, False, -5, False), stretch(None, False, -5, True), stretch(5, False, None, False),
                    stretch(5, True, None, False), stretch(None, False, None, False),
                    stretch(Fraction(1, 3), False, Fraction(1, 2), False), stretch(BIG, False, BIG + 1, False)]:
            value = Pieces(one).some()
            self.assertTrue(belongs(one, value))
            self.assertEqual(value, pair(Fraction(*value)))
        self.refused(NoValue, Pieces.none().some)


class TestShared(SetCase):
    def test_plain_count(self):
        chance = random.Random(5)
        for _ in range(200):
            lots = [Pieces(*any_set(chance)) for _ in range(chance.randint(0, 5))]
            values = candidates(ends_of(*lots))
            counts = [sum(value not in lot for lot in lots) for value in values]
            self.assertEqual(fewest_missing(lots), min(counts))
            for most in range(len(lots) + 2):
                self.same_values(
                    shared(lots, most), lambda value: sum(value not in lot for lot in lots) <= most, values)

    def test_edges(self):
        self.assertEqual(shared([], 0), Pieces.every())
        self.assertEqual(shared([Pieces.none()], 0), Pieces.none())
        self.assertEqual(shared([Pieces.none()], 1), Pieces.every())
        self.assertEqual(shared([Pieces.every()] * 3, 0), Pieces.every())
        self.assertEqual(shared([Pieces.between(0, 1)], BIG), Pieces.every())

    def test_a_set_that_stands_twice_counts_twice(self):
        one, two = Pieces.between(0, 1), Pieces.between(5, 6)
        self.assertEqual(shared([one, one, two], 1), one)
        self.assertEqual(shared([one, two], 1), one | two)

    def test_errors(self):
        self.refused(BadLimit, shared, [], -1, has={"limit": -1})
        self.refused(BadLimit, shared, [Pieces.none()], -BIG, has={"limit": -BIG})

    def test_the_list_is_not_changed(self):
        lots = [Pieces.between(5, 6), Pieces.between(0, 1)]
        shared(lots, 1)
        self.assertEqual(lots, [Pieces.between(5, 6), Pieces.between(0, 1)])


if __name__ == "__main__":
    unittest.main()
