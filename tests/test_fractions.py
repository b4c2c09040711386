import unittest
from fractions import Fraction
from math import gcd

from endrooms.errors import IsEnd, NoFraction, NoHouse, NoRoom, NoTaking, RoomError, Unending
from endrooms.fractions import fraction, less, over, plus, times

LONG = 123456789012345678901234567890123456789
LONGER = 987654321098765432109876543210987654321098765432109
WHOLE = (0, 1, 2, 3, 4, 6, 7, 12, 35, 97, 10 ** 15, 10 ** 30, 10 ** 30 + 57, 6 ** 40, 15 ** 35, LONG, LONGER)
SIGNED = WHOLE + tuple(-number for number in WHOLE)
SOME = ((0, 1), (1, 1), (-1, 1), (1, 2), (-1, 2), (2, 3), (-5, 6), (7, 4), (12, 35), (-35, 12), (10 ** 31, 3),
        (-3, 10 ** 31), (LONG, 10 ** 33), (-LONGER, 2 ** 101), (5, 1))


def told(number):
    return (number.numerator, number.denominator)


class Making(unittest.TestCase):
    def test_written_out(self):
        self.assertEqual(fraction(6, 4), (3, 2))
        self.assertEqual(fraction(-6, 4), (-3, 2))
        self.assertEqual(fraction(6, -4), (-3, 2))
        self.assertEqual(fraction(-6, -4), (3, 2))
        self.assertEqual(fraction(8, 4), (2, 1))
        self.assertEqual(fraction(4, 8), (1, 2))
        self.assertEqual(fraction(-5, 5), (-1, 1))
        self.assertEqual(fraction(3, 7), (3, 7))
        self.assertEqual(fraction(6 ** 40, -(10 ** 40)), (-(3 ** 40), 5 ** 40))

    def test_nought(self):
        for below in SIGNED:
            if below != 0:
                self.assertEqual(fraction(0, below), (0, 1))

    def test_lowest_terms_and_the_same_worth(self):
        for above in SIGNED:
            for below in SIGNED:
                if below == 0:
                    continue
                made = fraction(above, below)
                self.assertIs(type(made), tuple)
                self.assertEqual([type(part) for part in made], [int, int])
                self.assertGreater(made[1], 0)
                self.assertEqual(gcd(made[0], made[1]), 1)
                self.assertEqual(made[0] * below, above * made[1])

    def test_common_factor_of_many_figures(self):
        self.assertEqual(fraction(LONGER * 35, LONGER * -14), (-5, 2))
        self.assertEqual(fraction(-LONG * LONGER, -LONG), (LONGER, 1))

    def test_small_numbers_all(self):
        for above in range(-30, 31):
            for below in range(-30, 31):
                if below != 0:
                    self.assertEqual(fraction(above, below), told(Fraction(above, below)))


class Reckoning(unittest.TestCase):
    def test_written_out(self):
        self.assertEqual(plus((1, 2), (1, 3)), (5, 6))
        self.assertEqual(plus((1, 6), (1, 3)), (1, 2))
        self.assertEqual(plus((-1, 2), (1, 2)), (0, 1))
        self.assertEqual(less((1, 2), (1, 3)), (1, 6))
        self.assertEqual(less((1, 3), (1, 2)), (-1, 6))
        self.assertEqual(less((5, 7), (5, 7)), (0, 1))
        self.assertEqual(times((2, 3), (-3, 4)), (-1, 2))
        self.assertEqual(times((0, 1), (-3, 4)), (0, 1))
        self.assertEqual(over((2, 3), (-4, 3)), (-1, 2))
        self.assertEqual(over((-2, 3), (-4, 9)), (3, 2))
        self.assertEqual(over((0, 1), (-4, 9)), (0, 1))

    def test_by_the_rules_of_fractions(self):
        for one in SOME:
            for other in SOME:
                first = Fraction(*one)
                second = Fraction(*other)
                self.assertEqual(plus(one, other), told(first + second))
                self.assertEqual(less(one, other), told(first - second))
                self.assertEqual(times(one, other), told(first * second))
                if other != (0, 1):
                    self.assertEqual(over(one, other), told(first / second))


class Refusals(unittest.TestCase):
    def refused(self, call, one, other):
        with self.assertRaises(NoFraction) as caught:
            call(one, other)
        self.assertIs(type(caught.exception), NoFraction)
        self.assertIsInstance(caught.exception, RoomError)
        self.assertIsInstance(caught.exception, ValueError)
        self.assertNotIsInstance(caught.exception, (NoHouse, NoRoom, Unending, IsEnd, NoTaking))

    def test_nought_below(self):
        for above in SIGNED:
            self.refused(fraction, above, 0)

    def test_division_by_nought(self):
        for one in SOME:
            self.refused(over, one, (0, 1))


if __name__ == "__main__":
    unittest.main()
