import unittest
from fractions import Fraction

from metehouse.exact import common, compare, plus, ratio, times

NUMBERS = [0, 1, -1, 2, -6, 35, 10 ** 29 + 7, -(10 ** 29), 12 * 10 ** 28]


def pair(fraction):
    return (fraction.numerator, fraction.denominator)


class TestExact(unittest.TestCase):
    def test_common(self):
        self.assertEqual(common(), 0)
        self.assertEqual(common(0), 0)
        self.assertEqual(common(0, 0, 0), 0)
        self.assertEqual(common(-4), 4)
        self.assertEqual(common(0, -6), 6)
        self.assertEqual(common(12, -18, 30), 6)
        self.assertEqual(common(10 ** 29, 4 * 10 ** 28), 2 * 10 ** 28)

    def test_ratio(self):
        self.assertEqual(ratio(6, -4), (-3, 2))
        self.assertEqual(ratio(0, -9), (0, 1))
        self.assertEqual(ratio(5), (5, 1))
        for top in NUMBERS:
            for bottom in NUMBERS:
                if bottom != 0:
                    self.assertEqual(ratio(top, bottom), pair(Fraction(top, bottom)))

    def test_ratio_without_bottom(self):
        for top in NUMBERS:
            with self.assertRaises(ZeroDivisionError):
                ratio(top, 0)

    def test_compare_plus_times(self):
        values = [Fraction(top, bottom) for top in NUMBERS for bottom in NUMBERS if bottom > 0]
        for first in values:
            for second in values:
                expected = (first > second) - (first < second)
                self.assertEqual(compare(pair(first), pair(second)), expected)
                self.assertEqual(plus(pair(first), pair(second)), pair(first + second))
                self.assertEqual(times(pair(first), pair(second)), pair(first * second))


if __name__ == "__main__":
    unittest.main()
