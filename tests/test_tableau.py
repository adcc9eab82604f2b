"""The tableau behind the search: bounds that come in and are taken back again."""

import random
import unittest
from fractions import Fraction

from metehouse.forms import Form
from metehouse.linear import closes, holds, settle, whole_weights
from metehouse.tableau import Tableau

NAMES = ["a", "b", "c", "d"]


def some_rows(chance, count):
    rows = []
    for _ in range(count):
        terms = [(name, chance.choice([-2, -1, 1, 1, 2])) for name in chance.sample(NAMES, chance.randint(1, 3))]
        rows.append((Form(terms, chance.randint(-6, 6)), chance.choice(["<=", "<=", "<", "="])))
    return rows


class Walk:
    """A tableau, its rows, and the marks that were set."""

    def __init__(self, chance, case):
        self.chance = chance
        self.case = case
        self.tableau = Tableau(NAMES)
        self.rows = []
        self.marks = []
        # Few different forms, so that sums come and go and come again.
        self.known = some_rows(chance, 9)

    def put_in(self):
        for form, sign in self.chance.sample(self.known, self.chance.randint(1, 3)):
            self.tableau.bound_by(len(self.rows), form, sign)
            self.rows.append((form, sign))

    def go_back(self, keep):
        """Take back what came in since a mark; the mark may be used again."""
        at = self.chance.randrange(len(self.marks))
        count, mark = self.marks[at]
        self.tableau.back(mark)
        del self.rows[count:]
        del self.marks[at + (1 if keep else 0):]

    def fit(self):
        """What the tableau finds is what the rows say; True if it has a world."""
        entries = self.tableau.fit()
        self.case.assertEqual(entries is None, settle(self.rows)[0] == "world")
        if entries is not None:
            self.case.assertTrue(closes(self.rows, whole_weights(entries, len(self.rows), 0)[1]))
            return False
        self.check_worth()
        self.case.assertTrue(holds(self.rows, self.tableau.world(self.tableau.small_enough())))
        return True

    def check_worth(self):
        """Each sum that is awake has the worth that its quantities give it, and each basic one that of its parts."""
        tableau = self.tableau
        for number in tableau.sums:
            if number not in tableau.asleep:
                top, tiny, bottom = tableau.sum_worth(number)
                self.case.assertEqual(tableau.worth[number], (top, tiny, bottom))
        for number, (bottom, weights) in tableau.basis.items():
            for at in (0, 1):
                total = sum(Fraction(tableau.worth[part][at], tableau.worth[part][2]) * weight for part, weight in weights.items())
                own = tableau.worth[number]
                self.case.assertEqual(total / bottom, Fraction(own[at], own[2]))
                self.case.assertFalse(any(part in tableau.asleep or part in tableau.basis for part in weights))

    def step(self):
        if self.chance.random() < 0.6:
            self.put_in()
        elif self.marks:
            self.go_back(self.chance.random() < 0.6)
        if self.fit():
            if self.chance.random() < 0.5:
                self.marks.append((len(self.rows), self.tableau.set_mark()))
        elif self.marks:
            self.go_back(True)
            self.case.assertTrue(self.fit())
        else:
            self.tableau = Tableau(NAMES)
            self.rows = []


class TestMarks(unittest.TestCase):
    def test_random_walks(self):
        for seed in range(120):
            walk = Walk(random.Random(seed), self)
            walk.marks.append((0, walk.tableau.set_mark()))
            for _ in range(60):
                walk.step()
                if not walk.marks:
                    walk.marks.append((0, walk.tableau.set_mark()))
                    self.assertEqual(walk.rows, [])

    def test_sums_without_bounds_sleep(self):
        tableau = Tableau(NAMES)
        mark = tableau.set_mark()
        tableau.bound_by(0, Form.gap("a", "b") - 3, "<=")
        self.assertEqual((list(tableau.basis), list(tableau.asleep)), ([4], []))
        tableau.back(mark)
        self.assertEqual((list(tableau.basis), list(tableau.asleep)), ([], [4]))
        tableau.bound_by(0, 5 - Form.gap("a", "b"), "<=")
        self.assertEqual((list(tableau.basis), list(tableau.asleep)), ([4], []))
        self.assertIsNone(tableau.fit())

    def test_a_mark_is_used_twice(self):
        tableau = Tableau(NAMES)
        gap = Form.gap("a", "b")
        mark = tableau.set_mark()
        for low in (3, 8, -2):
            tableau.bound_by(0, low - gap, "<=")
            tableau.bound_by(1, gap - low - 1, "<=")
            self.assertIsNone(tableau.fit())
            value = gap(tableau.world((1, 1)))
            self.assertTrue(low <= Fraction(*value) <= low + 1)
            tableau.back(mark)
