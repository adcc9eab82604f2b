import itertools
import random
import unittest

from metehouse.claims import AtMost, Both, Either
from metehouse.errors import BadLimit, BadNumber, TooWide
from metehouse.forms import Form
from metehouse.ranks import ranked, worst_miss
from tests.helping import Case

FORMS = [Form.one(name) for name in "abcde"]
BIG = 10 ** 29


class TestRanked(Case):
    def test_parts_in_order(self):
        a, b, c, d = FORMS[:4]
        self.assertEqual(ranked([a, b, c], 1, 1), Either(
            Both(AtMost(a - b), AtMost(b - c)), Both(AtMost(b - a), AtMost(c - b))))
        self.assertEqual(ranked([a, b, c, d], 2, 0), Either(
            Both(AtMost(b - a), AtMost(c - a), AtMost(a - d)), Both(AtMost(b - a), AtMost(a - c), AtMost(d - a)),
            Both(AtMost(a - b), AtMost(c - a), AtMost(d - a))))
        self.assertEqual(ranked([a, b], 0, 1), Either(Both(AtMost(b - a))))
        self.assertEqual(ranked([a], 0, 0), Either(Both()))

    def test_truth(self):
        for levels in itertools.product(range(3), repeat=4):
            world = {name: (level, 1) for name, level in zip("abcd", levels)}
            for place in range(4):
                for index in range(4):
                    claim = ranked(FORMS[:4], place, index)
                    self.assertIs(claim(world), sorted(levels)[place] == levels[index])

    def test_errors_in_order(self):
        self.refused(BadNumber, ranked, [], 0, 0, has={"number": 0})
        self.refused(BadNumber, ranked, FORMS, 5, -1, has={"number": 5})
        self.refused(BadNumber, ranked, FORMS, -1, 9, has={"number": -1})
        self.refused(BadNumber, ranked, FORMS, 4, 5, has={"number": 5})
        self.refused(BadNumber, ranked, FORMS * 5, 12, -BIG, has={"number": -BIG})

    def test_width(self):
        many = [Form.one(f"q{number}") for number in range(1001)]
        self.assertEqual(ranked(many[:65], 1, 0).width, 64)
        self.assertEqual(ranked(many[:65], 63, 64).width, 64)
        self.refused(TooWide, ranked, many[:66], 1, 0, has={"width": 65})
        self.refused(TooWide, ranked, many[:9], 4, 0, has={"width": 70})
        self.assertEqual(ranked(many[:8], 3, 7).width, 35)
        self.refused(TooWide, ranked, many[:41], 20, 0, has={"width": 137846528820})
        self.assertEqual(ranked(many, 0, 1000).width, 1)
        self.assertEqual(ranked(many, 1000, 3).width, 1)

    def test_the_list_is_not_changed(self):
        forms = FORMS[:3]
        ranked(forms, 1, 2)
        self.assertEqual(forms, FORMS[:3])


def missed(radii, place, liars):
    """How far the answer can lie above the level, by trying all sets of liars, which tell anything."""
    best = 0
    for count in range(liars + 1):
        for lying in itertools.combinations(range(len(radii)), count):
            honest = sorted(radius for index, radius in enumerate(radii) if index not in lying)
            # The liars tell more than all others; the honest ones tell as much as they may.
            if place >= len(honest):
                return None
            best = max(best, honest[place])
    return best


class TestWorstMiss(Case):
    def test_small_racks(self):
        chance = random.Random(9)
        for _ in range(200):
            radii = [chance.randint(0, 9) for _ in range(chance.randint(1, 6))]
            size = len(radii)
            for place in range(size):
                for liars in range(size + 1):
                    above, below = worst_miss(radii, place, liars)
                    self.assertEqual(above, missed(radii, place, liars))
                    self.assertEqual(below, missed(radii, size - 1 - place, liars))

    def test_edges(self):
        self.assertEqual(worst_miss([BIG], 0, 0), (BIG, BIG))
        self.assertEqual(worst_miss([BIG], 0, 1), (None, None))
        self.assertEqual(worst_miss([3, 1], 0, 0), (1, 3))
        self.assertEqual(worst_miss([3, 1], 1, 0), (3, 1))

    def test_errors_in_order(self):
        self.refused(BadNumber, worst_miss, [1, -2, -3], 9, 9, has={"number": -2})
        self.refused(BadNumber, worst_miss, [], 0, 0, has={"number": 0})
        self.refused(BadNumber, worst_miss, [1, 2], 2, 9, has={"number": 2})
        self.refused(BadNumber, worst_miss, [1, 2], -1, 9, has={"number": -1})
        self.refused(BadLimit, worst_miss, [1, 2], 1, 3, has={"limit": 3})
        self.refused(BadLimit, worst_miss, [1, 2], 1, -1, has={"limit": -1})

    def test_the_list_is_not_changed(self):
        radii = [3, 1, 2]
        worst_miss(radii, 1, 1)
        self.assertEqual(radii, [3, 1, 2])


if __name__ == "__main__":
    unittest.main()
