"""Points 2 and 3: numbers, lowest terms, numbers brought to integers."""

import operator
import unittest
from fractions import Fraction
from math import gcd

from loadorloose.numbers import brought, less, lowest, minus, number, over, plus, sign, summed, times
from support import drawing, fraction, is_number, number_of

SIZES = (1, 2, 12, 10 ** 6, 10 ** 30, 10 ** 100, 10 ** 400)


def drawn_integer(draw):
    size = draw.choice(SIZES)
    return draw.randint(-size, size)


def drawn_number(draw):
    size = draw.choice(SIZES)
    return number_of(Fraction(drawn_integer(draw), draw.randint(1, size)))


class Numbers(unittest.TestCase):
    def test_example_of_the_interface(self):
        self.assertEqual(over(number(6, -4), (3, 1)), (-1, 2))

    def test_common_divisors_are_taken_out(self):
        self.assertEqual(number(6, 4), (3, 2))
        self.assertEqual(number(12, 4), (3, 1))
        self.assertEqual(number(7, 5), (7, 5))
        self.assertEqual(number(5, 5), (1, 1))

    def test_signs(self):
        self.assertEqual(number(-6, 4), (-3, 2))
        self.assertEqual(number(6, -4), (-3, 2))
        self.assertEqual(number(-6, -4), (3, 2))
        self.assertEqual(number(1, -1), (-1, 1))

    def test_nought(self):
        for d in (1, 7, -1, -7, 10 ** 30, -10 ** 100):
            self.assertEqual(number(0, d), (0, 1))
        self.assertEqual(plus((1, 2), (-1, 2)), (0, 1))
        self.assertEqual(minus((1, 3), (1, 3)), (0, 1))
        self.assertEqual(times((0, 1), (-5, 3)), (0, 1))
        self.assertEqual(over((0, 1), (-5, 3)), (0, 1))

    def test_long_integers(self):
        for long in (10 ** 30 - 1, 10 ** 100 - 1):
            self.assertEqual(number(long * 6, long * -4), (-3, 2))
            self.assertEqual(number(long, long + 1), (long, long + 1))
            self.assertEqual(number(-long, 1), (-long, 1))
            self.assertEqual(number(1, -long), (-1, long))

    def test_against_fractions(self):
        draw = drawing(2)
        for _ in range(3000):
            n = drawn_integer(draw)
            d = drawn_integer(draw) or -1
            found = number(n, d)
            self.assertEqual(fraction(found), Fraction(n, d))
            self.assertTrue(is_number(found))

    def test_sums_and_products_against_fractions(self):
        signs = ((plus, operator.add), (minus, operator.sub), (times, operator.mul), (over, operator.truediv))
        draw = drawing(3)
        for _ in range(3000):
            a = drawn_number(draw)
            b = drawn_number(draw)
            for own, theirs in signs:
                if own is over and b == (0, 1):
                    continue
                found = own(a, b)
                self.assertEqual(fraction(found), theirs(fraction(a), fraction(b)))
                self.assertTrue(is_number(found))

    def test_orders_against_fractions(self):
        draw = drawing(4)
        for _ in range(3000):
            a = drawn_number(draw)
            b = draw.choice((a, drawn_number(draw), plus(a, (1, 10 ** 100)), minus(a, (1, 10 ** 100))))
            self.assertIs(less(a, b), fraction(a) < fraction(b))
            self.assertIs(less(b, a), fraction(b) < fraction(a))

    def test_less_of_equal_numbers(self):
        for a in ((0, 1), (1, 2), (-7, 3)):
            self.assertIs(less(a, a), False)

    def test_sign(self):
        draw = drawing(5)
        for a in [(0, 1), (1, 10 ** 100), (-1, 10 ** 100)] + [drawn_number(draw) for _ in range(500)]:
            found = sign(a)
            self.assertEqual(found, (fraction(a) > 0) - (fraction(a) < 0))
            self.assertIs(type(found), int)


class Lists(unittest.TestCase):
    def test_lowest(self):
        self.assertEqual(lowest([6, 4, 10]), [3, 2, 5])
        self.assertEqual(lowest([6, 4, 9]), [6, 4, 9])
        self.assertEqual(lowest([6, 10, 15]), [6, 10, 15])

    def test_lowest_keeps_signs_and_noughts(self):
        self.assertEqual(lowest([-6, 4, 0]), [-3, 2, 0])
        self.assertEqual(lowest([0, 0, -5]), [0, 0, -1])
        self.assertEqual(lowest([-6, -4]), [-3, -2])

    def test_lowest_of_one_of_noughts_and_of_none(self):
        self.assertEqual(lowest([12]), [1])
        self.assertEqual(lowest([-12]), [-1])
        self.assertEqual(lowest([0]), [0])
        self.assertEqual(lowest([0, 0, 0]), [0, 0, 0])
        self.assertEqual(lowest([]), [])

    def test_lowest_of_long_integers(self):
        long = 10 ** 100 - 3
        self.assertEqual(lowest([long * 6, 0, -long * 15]), [2, 0, -5])
        self.assertEqual(lowest([long, -long] * 30), [1, -1] * 30)

    def test_lowest_against_the_greatest_divisor(self):
        draw = drawing(6)
        for _ in range(500):
            shared = abs(drawn_integer(draw)) or 1
            given = [shared * draw.choice((0, drawn_integer(draw))) for _ in range(draw.randint(1, 60))]
            divisor = gcd(*given)
            expected = [n // divisor for n in given] if divisor else given
            self.assertEqual(lowest(given), expected)

    def test_summed(self):
        self.assertEqual(summed([]), (0, 1))
        self.assertEqual(summed([(1, 2), (1, 3), (-5, 6)]), (0, 1))
        draw = drawing(10)
        for _ in range(100):
            numbers = [drawn_number(draw) for _ in range(draw.randint(1, 9))]
            self.assertEqual(summed(numbers), number_of(sum(fraction(a) for a in numbers)))

    def test_brought(self):
        self.assertEqual(brought([(1, 2), (1, 3)]), [3, 2])
        self.assertEqual(brought([(2, 1), (4, 1)]), [1, 2])
        self.assertEqual(brought([(2, 3), (4, 9)]), [3, 2])
        self.assertEqual(brought([(1, 6), (1, 10), (1, 15)]), [5, 3, 2])

    def test_brought_keeps_signs_and_noughts(self):
        self.assertEqual(brought([(-1, 2), (0, 1), (1, 4)]), [-2, 0, 1])
        self.assertEqual(brought([(-3, 1), (-9, 2)]), [-2, -3])

    def test_brought_of_one_of_noughts_and_of_none(self):
        self.assertEqual(brought([(7, 3)]), [1])
        self.assertEqual(brought([(-7, 3)]), [-1])
        self.assertEqual(brought([(0, 1)]), [0])
        self.assertEqual(brought([(0, 1), (0, 1)]), [0, 0])
        self.assertEqual(brought([]), [])

    def test_brought_against_fractions(self):
        draw = drawing(7)
        for _ in range(500):
            given = [draw.choice(((0, 1), drawn_number(draw))) for _ in range(draw.randint(1, 60))]
            found = brought(given)
            self.assertIs(type(found), list)
            self.assertTrue(all(type(n) is int for n in found))
            self.assertIn(gcd(*found), (0, 1))
            shares = {Fraction(n) / fraction(a) for n, a in zip(found, given, strict=True) if a[0] != 0}
            self.assertLessEqual(len(shares), 1)
            self.assertTrue(all(share > 0 for share in shares))
            self.assertTrue(all(n == 0 for n, a in zip(found, given) if a[0] == 0))

    def test_lists_are_new_and_arguments_stay(self):
        for given in ([], [0], [0, 0], [1], [2, 4], [-3, 0, 5]):
            kept = list(given)
            found = lowest(given)
            self.assertIs(type(found), list)
            self.assertIsNot(found, given)
            found.append(1)
            self.assertEqual(given, kept)
        for given in ([], [(0, 1)], [(1, 1)], [(1, 2), (0, 1)]):
            kept = list(given)
            found = brought(given)
            self.assertIsNot(found, given)
            found.append(1)
            self.assertEqual(given, kept)


if __name__ == "__main__":
    unittest.main()
