import math
import unittest

from weighwalk.errors import NoWeight
from weighwalk.ratios import divisor, fraction

THIRTY = 10 ** 30 - 1
NO_WHOLE_NUMBERS = (True, False, None, "1", "", 1.0, 2.5, float("nan"), [1], (1,), {}, {1: 2}, object())


class Divisor(unittest.TestCase):
    def test_small_numbers_of_either_sign(self):
        for one in range(-30, 31):
            for other in range(-30, 31):
                self.assertEqual(divisor(one, other), math.gcd(one, other), (one, other))

    def test_noughts(self):
        self.assertEqual(divisor(0, 0), 0)
        self.assertEqual(divisor(0, 7), 7)
        self.assertEqual(divisor(7, 0), 7)
        self.assertEqual(divisor(0, -7), 7)
        self.assertEqual(divisor(-7, 0), 7)

    def test_below_nought(self):
        self.assertEqual(divisor(-12, 18), 6)
        self.assertEqual(divisor(12, -18), 6)
        self.assertEqual(divisor(-12, -18), 6)

    def test_thirty_figures(self):
        common = 123456789012345
        self.assertEqual(divisor(common * 10 ** 15, common * 999999999999999), common)
        self.assertEqual(divisor(THIRTY, THIRTY - 1), 1)
        self.assertEqual(divisor(THIRTY, -THIRTY), THIRTY)
        self.assertEqual(divisor(THIRTY, 0), THIRTY)


class Fraction(unittest.TestCase):
    def test_lowest_terms_whatever_the_signs(self):
        self.assertEqual(fraction(6, 4), (3, 2))
        self.assertEqual(fraction(-6, 4), (-3, 2))
        self.assertEqual(fraction(6, -4), (-3, 2))
        self.assertEqual(fraction(-6, -4), (3, 2))

    def test_whole_numbers_and_nought(self):
        self.assertEqual(fraction(5, 1), (5, 1))
        self.assertEqual(fraction(10, -2), (-5, 1))
        self.assertEqual(fraction(0, 9), (0, 1))
        self.assertEqual(fraction(0, -9), (0, 1))

    def test_all_small_ones(self):
        for top in range(-20, 21):
            for bottom in [number for number in range(-20, 21) if number != 0]:
                made = fraction(top, bottom)
                self.assertIs(type(made), tuple)
                self.assertGreaterEqual(made[1], 1)
                self.assertEqual(math.gcd(*made), 1)
                self.assertEqual(made[0] * bottom, top * made[1])

    def test_thirty_figures(self):
        self.assertEqual(fraction(2 * THIRTY, -2), (-THIRTY, 1))
        self.assertEqual(fraction(THIRTY, THIRTY - 1), (THIRTY, THIRTY - 1))

    def test_second_number_of_nought(self):
        for top in (0, 1, -1, THIRTY):
            with self.assertRaises(NoWeight):
                fraction(top, 0)

    def test_no_whole_numbers(self):
        for thing in NO_WHOLE_NUMBERS:
            with self.assertRaises(NoWeight):
                fraction(thing, 2)
            with self.assertRaises(NoWeight):
                fraction(2, thing)
            with self.assertRaises(NoWeight):
                fraction(thing, thing)
