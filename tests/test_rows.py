"""Point 4: the rank and the kernel of rows."""

import unittest
from math import gcd

from loadorloose.rows import kernel, rank
from support import dot, drawing, drawn_rows, fraction_rank, mixed_rows


class Rows(unittest.TestCase):
    def check(self, rows, width, expected=None):
        """Check rank and kernel of rows, for which the rank is reckoned with fractions if it is not given."""
        if expected is None:
            expected = fraction_rank(rows)
        kept = list(rows)
        found = rank(rows)
        self.assertIs(type(found), int)
        self.assertEqual(found, expected)
        base = kernel(rows, width)
        self.assertEqual(rows, kept)
        self.assertIs(type(base), list)
        self.assertEqual(len(base), width - expected)
        for one in base:
            self.assertIs(type(one), tuple)
            self.assertEqual(len(one), width)
            self.assertTrue(all(type(n) is int for n in one))
            self.assertEqual(gcd(*one), 1)
            self.assertTrue(all(dot(row, one) == 0 for row in rows))
        return base

    def test_no_rows(self):
        self.assertEqual(rank([]), 0)
        for width in (0, 1, 2, 5, 60):
            base = self.check([], width, 0)
            self.assertEqual(rank(base), width)

    def test_rows_without_integers(self):
        self.check([(), (), ()], 0, 0)

    def test_one_row(self):
        self.check([(3, -6, 0, 2)], 4, 1)
        self.check([(0, 0, 0)], 3, 0)
        self.check([(0, 0, -7)], 3, 1)
        self.assertEqual(kernel([(2, 4)], 2)[0] in ((-2, 1), (2, -1)), True)

    def test_width_one(self):
        self.check([(0,)], 1, 0)
        self.check([(5,)], 1, 1)
        self.check([(0,), (-5,), (10 ** 30,)], 1, 1)
        self.assertEqual(kernel([(0,)], 1)[0] in ((1,), (-1,)), True)

    def test_rows_of_noughts(self):
        for count in (1, 2, 5):
            self.check([(0, 0, 0, 0)] * count, 4, 0)
        self.check([(0, 0, 0), (1, 2, 3), (0, 0, 0)], 3, 1)

    def test_multiples_and_sums(self):
        self.check([(1, 2, 3), (2, 4, 6), (-1, -2, -3)], 3, 1)
        self.check([(1, 2, 3), (4, 5, 6), (5, 7, 9)], 3, 2)
        self.check([(1, 0), (0, 1), (1, 1)], 2, 2)
        self.check([(1, 2, 3)] * 4, 3, 1)

    def test_ranks_that_are_seen_late(self):
        self.check([(0, 0, 1), (0, 2, 0), (3, 0, 0)], 3, 3)
        self.check([(0, 1, 1), (0, 2, 2), (0, 0, 0), (0, 0, 5)], 3, 2)

    def test_multiples_of_primes_are_no_noughts(self):
        # Rests by a prime are not enough to tell the rank.
        for prime in (2 ** 31 - 1, 2 ** 61 - 1, 2 ** 89 - 1, 10 ** 9 + 7):
            self.check([(prime, 0), (0, prime)], 2, 2)
            self.check([(prime, 1), (0, 2 * prime)], 2, 2)
            self.check([(prime, 3), (2 * prime, 6)], 2, 1)
            self.check([(1, 1), (1, 1 + prime)], 2, 2)

    def test_drawn(self):
        draw = drawing(11)
        for _ in range(600):
            count, width = draw.randint(1, 8), draw.randint(1, 8)
            rows = drawn_rows(draw, count, width, draw.choice((1, 2, 9, 10 ** 30)), draw.choice((0, 0.5, 0.8)))
            base = self.check(rows, width)
            self.assertEqual(fraction_rank(base), len(base))

    def test_drawn_sums_and_multiples(self):
        draw = drawing(12)
        for _ in range(300):
            width = draw.randint(1, 9)
            base = drawn_rows(draw, draw.randint(1, width), width, draw.choice((1, 3, 10 ** 12)))
            rows = mixed_rows(draw, len(base) + draw.randint(0, 6), base)
            found = self.check(rows, width)
            self.assertEqual(fraction_rank(found), len(found))

    def test_order_of_rows_does_not_matter(self):
        draw = drawing(13)
        for _ in range(100):
            rows = drawn_rows(draw, draw.randint(1, 7), draw.randint(1, 7), 2, 0.5)
            expected = rank(rows)
            for _ in range(4):
                draw.shuffle(rows)
                self.assertEqual(rank(rows), expected)

    def test_kernel_of_the_kernel(self):
        draw = drawing(14)
        for _ in range(60):
            width = draw.randint(1, 8)
            rows = drawn_rows(draw, draw.randint(0, 8), width, 10 ** 12, 0.4)
            known = rank(rows)
            base = kernel(rows, width)
            again = kernel(base, width)
            self.assertEqual(len(again), known)
            self.assertEqual(rank(rows + again), known)

    def test_answers_are_new(self):
        rows = [(1, 2, 3)]
        kernel(rows, 3).append(None)
        self.assertEqual(len(kernel(rows, 3)), 2)


class LargeRows(unittest.TestCase):
    """The counts and sizes of point 29."""

    check = Rows.check

    def test_full_rank(self):
        draw = drawing(15)
        rows = drawn_rows(draw, 60, 60, 10 ** 30)
        self.check(rows, 60, 60)

    def test_one_row_less(self):
        draw = drawing(16)
        self.check(drawn_rows(draw, 59, 60, 10 ** 30), 60, 59)

    def test_half_the_rank(self):
        draw = drawing(17)
        left = drawn_rows(draw, 60, 30, 10 ** 14)
        right = list(zip(*drawn_rows(draw, 30, 60, 10 ** 14)))
        self.check([tuple(dot(row, column) for column in right) for row in left], 60, 30)

    def test_sums_and_multiples(self):
        draw = drawing(18)
        self.check(mixed_rows(draw, 60, drawn_rows(draw, 20, 60, 10 ** 28)), 60, 20)

    def test_more_rows_than_integers_in_them(self):
        draw = drawing(19)
        self.check(drawn_rows(draw, 60, 7, 10 ** 30), 7, 7)

    def test_what_kernel_returned_may_be_passed_on(self):
        draw = drawing(20)
        rows = drawn_rows(draw, 30, 60, 10 ** 30)
        base = self.check(rows, 60, 30)
        self.assertEqual(rank(base), 30)
        again = self.check(base, 60, 30)
        self.assertEqual(rank(rows + again), 30)


if __name__ == "__main__":
    unittest.main()
