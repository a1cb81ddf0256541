import unittest
from fractions import Fraction
from math import gcd

from flagfloors.ratios import minus, over, plus, ratio, sign_of, times

TOP = 1234567890123456789012345678901234567890
BOTTOM = 9876543210987654321098765432109876543210
NUMBERS = (-TOP, -12, -7, -6, -1, 0, 1, 4, 6, 9, TOP)
BOTTOMS = (-BOTTOM, -12, -3, -1, 1, 2, 6, 15, BOTTOM)


def as_ratio(fraction):
    return (fraction.numerator, fraction.denominator)


def as_fraction(pair):
    return Fraction(pair[0], pair[1])


class Ratios(unittest.TestCase):
    def setUp(self):
        self.pairs = [(top, bottom) for top in NUMBERS for bottom in BOTTOMS]
        self.ratios = [as_ratio(Fraction(top, bottom)) for top, bottom in self.pairs]

    def test_ratio_is_in_lowest_terms(self):
        for top, bottom in self.pairs:
            found = ratio(top, bottom)
            self.assertIs(type(found), tuple)
            self.assertGreaterEqual(found[1], 1)
            self.assertEqual(gcd(found[0], found[1]), 1)
            self.assertEqual(found[0] * bottom, top * found[1])

    def test_ratio_of_each_sign(self):
        self.assertEqual(ratio(6, 4), (3, 2))
        self.assertEqual(ratio(-6, 4), (-3, 2))
        self.assertEqual(ratio(6, -4), (-3, 2))
        self.assertEqual(ratio(-6, -4), (3, 2))

    def test_zero(self):
        for bottom in BOTTOMS:
            self.assertEqual(ratio(0, bottom), (0, 1))
        self.assertEqual(plus((1, 2), (-1, 2)), (0, 1))
        self.assertEqual(minus((1, 2), (1, 2)), (0, 1))
        self.assertEqual(times((0, 1), (-5, 7)), (0, 1))
        self.assertEqual(over((0, 1), (-5, 7)), (0, 1))

    def test_forty_digits(self):
        self.assertEqual(len(str(TOP)), 40)
        self.assertEqual(ratio(TOP * 7, -BOTTOM * 7), as_ratio(Fraction(TOP, -BOTTOM)))

    def test_sums_products_and_quotients(self):
        for a in self.ratios[::3]:
            for b in self.ratios:
                x, y = as_fraction(a), as_fraction(b)
                self.assertEqual(plus(a, b), as_ratio(x + y))
                self.assertEqual(minus(a, b), as_ratio(x - y))
                self.assertEqual(times(a, b), as_ratio(x * y))
                if b[0] != 0:
                    self.assertEqual(over(a, b), as_ratio(x / y))

    def test_sign(self):
        for a in self.ratios:
            self.assertEqual(sign_of(a), (a[0] > 0) - (a[0] < 0))
            self.assertIs(type(sign_of(a)), int)

    def test_same_call_same_answer(self):
        for call in (plus, minus, times, over):
            self.assertEqual(call((1, 6), (-3, 4)), call((1, 6), (-3, 4)))
