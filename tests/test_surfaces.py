"""Points 25 and 26: surfaces over plane nets, their slopes, and the tensions that belong to them."""

import copy
import unittest
from collections import Counter
from fractions import Fraction

from drawn_plane import around_one, belong_together, drawn_plane, own_outer, own_rounds, own_slopes
from loadorloose.faces import outer, rounds
from loadorloose.numbers import plus, times
from loadorloose.rows import kernel
from loadorloose.surfaces import slopes, surface, tensions_of
from own_sums import is_balanced, value
from support import drawing, is_number, number_of

LARGE = 10 ** 12

# A triangle around a joint, and a square around one
WHEEL = (((-3, -3), (3, -3), (0, 6), (0, 0)), ((0, 1), (0, 2), (1, 2), (0, 3), (1, 3), (2, 3)))
CROSS = (((0, 0), (2, 0), (2, 2), (0, 2), (1, 1)), ((0, 1), (0, 3), (0, 4), (1, 2), (1, 4), (2, 3), (2, 4), (3, 4)))


def bars(points, pairs):
    """The free frame of bars of a plane net."""
    return points, tuple(pair + (None, None) for pair in pairs), ()


def balances(points, pairs, tensions):
    """Whether tensions balance at each joint."""
    return is_balanced(bars(points, pairs), ((0, 0),) * len(points), tensions)


def base_of(points, pairs):
    """Balanced tensions of which all are made."""
    rows = []
    for k in range(len(points)):
        for c in (0, 1):
            rows.append(tuple(points[i + j - k][c] - points[k][c] if k in (i, j) else 0 for i, j in pairs))
    return kernel(rows, len(pairs))


def drawn_tensions(draw, points, pairs, size):
    """Balanced tensions, integers."""
    base = base_of(points, pairs)
    shares = [draw.randint(-size, size) for _ in base]
    return tuple(sum(share * one[k] for share, one in zip(shares, base)) for k in range(len(pairs)))


def drawn_heights(draw, points, pairs, size):
    """Heights of a triangle around others, with noughts where the outer round is."""
    flat = own_rounds(points, pairs)[own_outer(points, pairs)]
    heights = [Fraction(draw.randint(-size, size), draw.randint(1, size)) for _ in points]
    return tuple(number_of(0 if k in flat else height) for k, height in enumerate(heights))


def drawn_net(draw):
    """A plane net, often one that has balanced tensions."""
    if draw.random() < 0.4:
        return drawn_plane(draw)
    points, pairs = around_one(draw, draw.randint(3, 8), draw.choice((4, 10, 1000)))
    out = draw.randrange(len(pairs)) if draw.random() < 0.4 else len(pairs)
    return points, pairs[:out] + pairs[out + 1:]


class Checking(unittest.TestCase):
    def check(self, points, pairs, tensions):
        """Check what is told of balanced tensions; return the heights."""
        kept = copy.deepcopy((points, pairs, tensions))
        heights = surface(points, pairs, tensions)
        told = slopes(points, pairs, tensions)
        self.assertIs(type(heights), tuple)
        self.assertEqual(len(heights), len(points))
        self.assertTrue(all(type(height) is int for height in heights))
        numbers = tuple((height, 1) for height in heights)
        self.assertTrue(belong_together(points, pairs, tensions, numbers))
        self.check_slopes(points, pairs, told, own_slopes(points, pairs, numbers))
        self.assertEqual(tensions_of(points, pairs, numbers), tuple((t, 1) for t in tensions))
        self.assertEqual((points, pairs, tensions), kept)
        return heights

    def check_slopes(self, points, pairs, told, expected):
        """Check slopes that are told."""
        self.assertIs(type(told), list)
        self.assertEqual(told, expected)
        for slope in told:
            self.assertIs(type(slope), tuple)
            self.assertTrue(all(type(n) is int for n in slope))
        self.assertEqual(told[outer(points, pairs)], (0, 0))
        rings = rounds(points, pairs)
        left = {step: told[k] for k, ring in enumerate(rings) for step in zip(ring, ring[1:] + ring[:1])}
        for i, j in pairs:
            across = [a - b for a, b in zip(left[i, j], left[j, i])]
            along = [points[j][c] - points[i][c] for c in (0, 1)]
            self.assertEqual(across[0] * along[0] + across[1] * along[1], 0)

    def check_heights(self, points, pairs, heights):
        """Check what is told of heights; return the tensions, or None."""
        kept = copy.deepcopy((points, pairs, heights))
        told = tensions_of(points, pairs, heights)
        self.assertEqual((points, pairs, heights), kept)
        if own_slopes(points, pairs, heights) is None:
            self.assertIsNone(told, (points, pairs, heights))
            return None
        self.assertIs(type(told), tuple)
        self.assertTrue(all(is_number(tension) for tension in told))
        self.assertTrue(belong_together(points, pairs, told, heights), (points, pairs, heights))
        self.assertTrue(balances(points, pairs, told))
        return told


class Known(Checking):
    def test_a_joint_in_a_triangle(self):
        # The pairs in the middle pull, and those around push: the middle goes down.
        tensions = (-1, -1, -1, 3, 3, 3)
        self.assertEqual(self.check(*WHEEL, tensions), (0, 0, 0, -18))
        self.assertEqual(slopes(*WHEEL, tensions), [(0, -6), (0, 0), (-9, 3), (9, 3)])
        self.assertEqual(self.check(*WHEEL, (1, 1, 1, -3, -3, -3)), (0, 0, 0, 18))

    def test_a_joint_in_a_square(self):
        tensions = (-1, -1, 2, -1, 2, -1, 2, 2)
        self.assertEqual(self.check(*CROSS, tensions), (0, 0, 0, 0, -2))
        self.assertEqual(slopes(*CROSS, tensions), [(0, -2), (0, 0), (-2, 0), (2, 0), (0, 2)])

    def test_tensions_of_heights(self):
        self.assertEqual(
            tensions_of(*WHEEL, ((0, 1), (0, 1), (0, 1), (1, 1))),
            ((1, 18), (1, 18), (1, 18), (-1, 6), (-1, 6), (-1, 6)),
        )
        self.assertEqual(tensions_of(*CROSS, ((0, 1),) * 4 + ((-2, 3),))[2], (2, 3))

    def test_noughts(self):
        self.assertEqual(self.check(*CROSS, (0,) * 8), (0,) * 5)
        self.assertEqual(slopes(*CROSS, (0,) * 8), [(0, 0)] * 5)
        self.assertEqual(tensions_of(*CROSS, ((0, 1),) * 5), ((0, 1),) * 8)

    def test_a_triangle_in_a_triangle(self):
        # Two triangles, one inside the other, joined by three pairs that lie on lines through one place
        points = ((-6, -6), (6, -6), (0, 12), (-3, -3), (3, -3), (0, 6))
        pairs = ((0, 1), (0, 2), (1, 2), (3, 4), (3, 5), (4, 5), (0, 3), (1, 4), (2, 5))
        base = base_of(points, pairs)
        self.assertEqual(len(base), 1)
        heights = self.check(points, pairs, base[0])
        self.assertEqual(len(set(heights[3:])), 1)
        self.check_heights(points, pairs, ((0, 1),) * 3 + ((5, 7),) * 3)
        self.assertIsNone(self.check_heights(points, pairs, ((0, 1),) * 3 + ((5, 7),) * 2 + ((5, 8),)))


class Nets(Checking):
    def test_nets_without_balanced_tensions_but_noughts(self):
        draw = drawing(521)
        nets = [(((0, 0), (3, 1)), ((0, 1),)), (WHEEL[0], WHEEL[1][:5]), (CROSS[0], CROSS[1][:5] + CROSS[1][6:])]
        nets += [drawn_plane(draw, 8, (4, 1000), (1,)) for _ in range(30)]
        for points, pairs in nets:
            self.assertEqual(base_of(points, pairs), [])
            self.check(points, pairs, (0,) * len(pairs))
            self.check_heights(points, pairs, ((0, 1),) * len(points))
            for k in range(len(pairs)):
                self.check_unbalanced(points, pairs, tuple(int(k == at) for at in range(len(pairs))))

    def check_unbalanced(self, points, pairs, tensions):
        """Check that nothing is told of tensions that are not balanced."""
        self.assertFalse(balances(points, pairs, tensions))
        kept = copy.deepcopy((points, pairs, tensions))
        self.assertIsNone(surface(points, pairs, tensions))
        self.assertIsNone(slopes(points, pairs, tensions))
        self.assertEqual((points, pairs, tensions), kept)

    def test_drawn_tensions(self):
        draw = drawing(522)
        found = Counter()
        for _ in range(300):
            points, pairs = drawn_net(draw)
            tensions = drawn_tensions(draw, points, pairs, draw.choice((1, 5, LARGE)))
            heights = self.check(points, pairs, tensions)
            found[any(heights)] += 1
        self.assertGreater(min(found.values()), 80)

    def test_tensions_that_are_not_balanced(self):
        draw = drawing(523)
        for _ in range(150):
            points, pairs = drawn_net(draw)
            tensions = list(drawn_tensions(draw, points, pairs, 5))
            tensions[draw.randrange(len(pairs))] += draw.choice((1, -1, LARGE))
            self.check_unbalanced(points, pairs, tuple(tensions))

    def test_drawn_heights(self):
        draw = drawing(524)
        for _ in range(150):
            points, pairs = around_one(draw, draw.randint(3, 8), draw.choice((4, 10, 1000)))
            heights = drawn_heights(draw, points, pairs, draw.choice((3, 100, LARGE)))
            tensions = self.check_heights(points, pairs, heights)
            self.assertIsNotNone(tensions)
            self.check_back(points, pairs, heights, tensions)

    def check_back(self, points, pairs, heights, tensions):
        """Check that the tensions, made integers, lead back to the heights."""
        scale = 1
        for tension in tensions:
            scale *= tension[1]
        integers = tuple(int(value(tension) * scale) for tension in tensions)
        self.assertEqual(surface(points, pairs, integers), tuple(value(height) * scale for height in heights))

    def test_heights_that_are_no_surface(self):
        draw = drawing(525)
        found = Counter()
        for _ in range(300):
            points, pairs = drawn_net(draw)
            times_all = Fraction(1, draw.choice((1, 3, LARGE)))
            heights = surface(points, pairs, drawn_tensions(draw, points, pairs, 5))
            heights = [height * times_all for height in heights]
            self.assertIsNotNone(self.check_heights(points, pairs, tuple(map(number_of, heights))))
            k = draw.randrange(len(points))
            heights[k] += draw.choice((1, -1, Fraction(1, LARGE)))
            outside = k in own_rounds(points, pairs)[own_outer(points, pairs)]
            told = self.check_heights(points, pairs, tuple(map(number_of, heights)))
            found[outside, told is None] += 1
        self.assertGreater(found[True, True], 50)
        self.assertEqual(found[True, False], 0)
        self.assertGreater(min(found[False, True], found[False, False]), 10)

    def test_joints_that_hang_in_a_round(self):
        # A joint with one pair lies in the plane of its round.
        points = ((0, 0), (12, 0), (0, 12), (3, 3), (1, 6))
        pairs = ((0, 1), (0, 2), (1, 2), (0, 3), (1, 3), (2, 3), (3, 4))
        base = base_of(points, pairs)
        self.assertEqual([len(base), base[0][6]], [1, 0])
        heights = self.check(points, pairs, base[0])
        self.assertNotEqual(heights[4], 0)
        numbers = [(height, 1) for height in heights]
        self.assertIsNotNone(self.check_heights(points, pairs, tuple(numbers)))
        numbers[4] = (2 * heights[4] + 1, 2)
        self.assertIsNone(self.check_heights(points, pairs, tuple(numbers)))

    def test_sums_of_tensions_lead_to_sums_of_heights(self):
        draw = drawing(526)
        for _ in range(80):
            points, pairs = around_one(draw, draw.randint(4, 8), draw.choice((6, 1000)))
            some, others = (drawn_tensions(draw, points, pairs, draw.choice((3, LARGE))) for _ in range(2))
            a, b = draw.randint(-9, 9), draw.randint(-9, 9)
            total = tuple(a * s + b * t for s, t in zip(some, others))
            heights = zip(surface(points, pairs, some), surface(points, pairs, others))
            self.assertEqual(surface(points, pairs, total), tuple(a * g + b * h for g, h in heights))
            one, two = (drawn_heights(draw, points, pairs, 50) for _ in range(2))
            tensions = zip(tensions_of(points, pairs, one), tensions_of(points, pairs, two))
            both = tuple(plus(times((a, 1), g), h) for g, h in zip(one, two))
            self.assertEqual(
                tensions_of(points, pairs, both), tuple(plus(times((a, 1), s), t) for s, t in tensions)
            )

    def test_orders_of_the_pairs(self):
        draw = drawing(527)
        for _ in range(60):
            points, pairs = drawn_net(draw)
            tensions = drawn_tensions(draw, points, pairs, 5)
            order = draw.sample(range(len(pairs)), len(pairs))
            again = [[items[k] for k in order] for items in (pairs, tensions)]
            self.assertEqual(surface(points, *map(tuple, again)), surface(points, pairs, tensions))
            self.assertEqual(slopes(points, *map(tuple, again)), slopes(points, pairs, tensions))

    def test_fourteen_joints_and_long_integers(self):
        draw = drawing(528)
        for size in (3, LARGE, 10 ** 400):
            points, pairs = around_one(draw, 14)
            self.check(points, pairs, drawn_tensions(draw, points, pairs, size))
            heights = drawn_heights(draw, points, pairs, size)
            self.check_back(points, pairs, heights, self.check_heights(points, pairs, heights))

    def test_answers_are_new(self):
        tensions = (-1, -1, -1, 3, 3, 3)
        slopes(*WHEEL, tensions).append(None)
        self.assertEqual(len(slopes(*WHEEL, tensions)), 4)


if __name__ == "__main__":
    unittest.main()
