"""Points 23 and 24: plane nets and their rounds."""

import copy
import unittest
from collections import Counter

from drawn_nets import all_pairs
from drawn_plane import around_one, drawn_places, drawn_plane, full_plane, own_area, own_next, own_outer, own_plane
from drawn_plane import own_rounds
from loadorloose.faces import is_plane, outer, rounds
from support import drawing

SQUARE = ((0, 0), (2, 0), (2, 2), (0, 2))
SIDES = ((0, 1), (1, 2), (2, 3), (0, 3))


class Plane(unittest.TestCase):
    def judge(self, points, pairs, expected=None):
        """Check what is told of points and pairs; return it."""
        kept = copy.deepcopy((points, pairs))
        found = is_plane(points, pairs)
        self.assertEqual((points, pairs), kept)
        self.assertIs(found, own_plane(points, pairs), (points, pairs))
        if expected is not None:
            self.assertIs(found, expected, (points, pairs))
        return found

    def test_known(self):
        self.judge(((0, 0), (5, 7)), ((0, 1),), True)
        self.judge(SQUARE, SIDES, True)
        self.judge(SQUARE, SIDES[1:], True)
        self.judge(SQUARE, SIDES + ((0, 2),), True)
        self.judge(SQUARE, SIDES + ((1, 3),), True)

    def test_pairs_that_cross(self):
        self.judge(SQUARE, SIDES + ((0, 2), (1, 3)), False)
        self.judge(SQUARE, ((0, 2), (1, 3), (0, 1)), False)
        self.judge(((0, 0), (10, 1), (0, 1), (10, 0)), ((0, 1), (2, 3), (0, 2)), False)

    def test_pairs_that_overlap(self):
        line = ((0, 0), (1, 0), (2, 0), (3, 0))
        self.judge(line, ((0, 1), (1, 2), (2, 3)), True)
        self.judge(line, ((0, 2), (1, 3)), False)
        self.judge(line, ((0, 2), (1, 3), (0, 1)), False)
        self.judge(line, ((0, 3), (1, 2)), False)
        # They have a joint in common, and more.
        self.judge(line[:3], ((0, 1), (0, 2)), False)
        self.judge(line[:3], ((0, 2), (1, 2)), False)
        self.judge(((0, 0), (-1, 0), (2, 0)), ((0, 1), (0, 2)), True)

    def test_pairs_that_touch_another_pair_inside(self):
        points = ((0, 0), (4, 0), (2, 0), (2, 3))
        self.judge(points, ((0, 1), (2, 3)), False)
        self.judge(points, ((0, 1), (2, 3), (0, 3)), False)
        self.judge(points, ((0, 2), (1, 2), (2, 3)), True)

    def test_a_joint_on_a_pair(self):
        points = ((0, 0), (4, 2), (2, 1), (0, 5))
        self.judge(points, ((0, 1), (0, 3), (1, 3)), False)
        self.judge(points, ((0, 2), (1, 2), (0, 3)), True)
        self.judge(((0, 0), (4, 2), (2, 2), (0, 5)), ((0, 1), (0, 2), (0, 3)), True)

    def test_nets_that_do_not_hang_together(self):
        points = SQUARE + ((7, 7), (8, 9))
        self.judge(points, SIDES, False)
        self.judge(points, SIDES + ((4, 5),), False)
        self.judge(points, SIDES + ((2, 4),), False)
        self.judge(points, SIDES + ((2, 4), (4, 5)), True)
        self.judge(((0, 0), (1, 1), (5, 0)), ((0, 1),), False)
        self.judge(((5, 0), (0, 0), (1, 1)), ((1, 2),), False)
        # A part inside another one
        self.judge(((0, 0), (9, 0), (0, 9), (1, 1), (2, 1), (1, 2)), tuple(all_pairs(3)) + ((3, 4), (4, 5)), False)

    def test_lists_of_pairs(self):
        self.judge(SQUARE, list(SIDES), True)

    def test_drawn_and_spoilt(self):
        draw = drawing(501)
        found = Counter()
        for _ in range(300):
            points, pairs = drawn_plane(draw)
            self.judge(points, pairs, True)
            n = len(points)
            others = [pair for pair in all_pairs(n) if pair not in pairs]
            if others:
                found["pair", self.judge(points, pairs + (draw.choice(others),))] += 1
            out = draw.randrange(len(pairs))
            if len(pairs) > 1:
                found["out", self.judge(points, pairs[:out] + pairs[out + 1:])] += 1
            place = drawn_places(draw, 1, 4)[0]
            if place not in points:
                self.judge(points + (place,), pairs, False)
                more = pairs + ((draw.randrange(n), n),)
                found["joint", self.judge(points + (place,), more)] += 1
                k = draw.randrange(n)
                moved = points[:k] + (place,) + points[k + 1:]
                found["moved", self.judge(moved, pairs)] += 1
        for kind in ("pair", "out", "joint", "moved"):
            self.assertGreater(min(found[kind, True], found[kind, False]), 20, (kind, found))

    def test_drawn_pairs(self):
        draw = drawing(502)
        found = Counter()
        for _ in range(1500):
            points = drawn_places(draw, draw.randint(2, 5), 2)
            pairs = all_pairs(len(points))
            found[self.judge(points, tuple(draw.sample(pairs, draw.randint(1, min(len(pairs), 6)))))] += 1
        self.assertGreater(min(found.values()), 150)

    def test_fourteen_joints(self):
        draw = drawing(503)
        points, pairs = around_one(draw, 14)
        self.assertEqual(len(pairs), 36)
        self.judge(points, pairs, True)
        others = [pair for pair in all_pairs(14) if pair not in pairs]
        for pair in others:
            self.judge(points, pairs + (pair,), False)
        self.judge(points, tuple(all_pairs(14)), False)


class Checking(unittest.TestCase):
    def check(self, points, pairs):
        """Check the rounds of a plane net, and which one is the outer one; return both."""
        kept = copy.deepcopy((points, pairs))
        rings = rounds(points, pairs)
        at = outer(points, pairs)
        self.assertEqual((points, pairs), kept)
        self.assertIs(type(rings), list)
        steps = Counter()
        for ring in rings:
            self.assertIs(type(ring), tuple)
            own = list(zip(ring, ring[1:] + ring[:1]))
            steps.update(own)
            for step, after in zip(own, own[1:] + own[:1]):
                self.assertEqual(after, own_next(points, pairs, *step))
            self.assertEqual(ring, min(ring[k:] + ring[:k] for k in range(len(ring))))
        self.assertEqual(steps, Counter(step for i, j in pairs for step in ((i, j), (j, i))))
        self.assertEqual(rings, sorted(rings))
        self.assertEqual(len(rings), len(pairs) - len(points) + 2)
        self.assertEqual(rings, own_rounds(points, pairs))
        self.assertIs(type(at), int)
        self.assertEqual([k for k, ring in enumerate(rings) if own_area(points, ring) <= 0], [at])
        self.assertEqual(at, own_outer(points, pairs))
        return rings, at


class Rounds(Checking):
    def test_one_pair(self):
        self.assertEqual(self.check(((0, 0), (3, 1)), ((0, 1),)), ([(0, 1)], 0))

    def test_triangle(self):
        self.assertEqual(self.check(((0, 0), (1, 0), (0, 1)), ((0, 1), (0, 2), (1, 2))), ([(0, 1, 2), (0, 2, 1)], 1))
        self.assertEqual(self.check(((0, 0), (0, 1), (1, 0)), ((0, 1), (0, 2), (1, 2))), ([(0, 1, 2), (0, 2, 1)], 0))

    def test_square_with_a_diagonal(self):
        rings, at = self.check(SQUARE, SIDES + ((0, 2),))
        self.assertEqual((rings, at), ([(0, 1, 2), (0, 2, 3), (0, 3, 2, 1)], 2))

    def test_trees(self):
        # Steps are followed by their own way back at joints with one pair.
        self.assertEqual(self.check(((0, 0), (1, 0), (2, 0)), ((0, 1), (1, 2))), ([(0, 1, 2, 1)], 0))
        star = ((0, 0), (1, 0), (0, 1), (-1, 0), (0, -1))
        self.assertEqual(self.check(star, tuple((0, k) for k in (1, 2, 3, 4)))[0], [(0, 1, 0, 4, 0, 3, 0, 2)])
        draw = drawing(504)
        for _ in range(100):
            points, pairs = drawn_plane(draw, 8, (2, 5, 1000), (1,))
            self.assertEqual(len(pairs), len(points) - 1)
            rings, at = self.check(points, pairs)
            self.assertEqual((len(rings), len(rings[0]), at), (1, 2 * len(pairs), 0))

    def test_a_round_through_a_joint_more_than_once(self):
        # Two triangles with one joint in common, and one inside the other
        points = ((0, 0), (2, 1), (2, -1), (-2, 1), (-2, -1))
        pairs = ((0, 1), (0, 2), (1, 2), (0, 3), (0, 4), (3, 4))
        rings, at = self.check(points, pairs)
        self.assertEqual(rings[at].count(0), 2)
        points = ((0, 0), (9, 9), (9, -9), (4, 1), (4, -1))
        rings, at = self.check(points, pairs)
        self.assertEqual(sorted(map(len, rings)), [3, 3, 6])
        self.assertEqual(len(rings[at]), 3)

    def test_pairs_that_hang_inside_and_outside(self):
        points = SQUARE + ((1, 1), (5, 5))
        rings, at = self.check(points, SIDES + ((0, 4), (2, 5)))
        self.assertEqual(rings, [(0, 1, 2, 3, 0, 4), (0, 3, 2, 5, 2, 1)])
        self.assertEqual(at, 1)

    def test_straight_on(self):
        points = ((0, 0), (1, 0), (2, 0), (1, 1), (1, -1))
        self.check(points, ((0, 1), (1, 2), (0, 3), (2, 3), (0, 4), (2, 4)))
        self.check(points, ((0, 1), (1, 2), (1, 3), (1, 4), (0, 3)))

    def test_drawn(self):
        draw = drawing(505)
        found = Counter()
        for _ in range(400):
            rings, at = self.check(*drawn_plane(draw, 8, (1, 2, 4, 1000)))
            found[len(rings)] += 1
            found["outer first" if at == 0 else "other"] += 1
        self.assertGreater(len(found), 9)
        self.assertGreater(min(found["outer first"], found["other"]), 30)

    def test_far_apart(self):
        # Directions that hardly differ
        points = ((-1000, -1000), (1000, 999), (999, 998), (998, 998), (1000, 1000))
        pairs = tuple(pair for pair in all_pairs(5))
        self.assertIs(is_plane(points, pairs), own_plane(points, pairs))
        draw = drawing(506)
        self.check(points, tuple(full_plane(draw, points)))

    def test_fourteen_joints(self):
        draw = drawing(507)
        for size in (10, 1000):
            points, pairs = around_one(draw, 14, size)
            rings, at = self.check(points, pairs)
            self.assertEqual(len(rings), len(pairs) - 12)
            self.assertEqual(sorted(rings[at]), [0, 1, 2])

    def test_answers_are_new(self):
        rounds(SQUARE, SIDES).append(None)
        self.assertEqual(rounds(SQUARE, SIDES), [(0, 1, 2, 3), (0, 3, 2, 1)])


if __name__ == "__main__":
    unittest.main()
