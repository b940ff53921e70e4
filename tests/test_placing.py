"""Point 19: the rank of the growths, and places for the joints of nets."""

import copy
import unittest
from collections import Counter

from drawn_frames import drawn_points
from drawn_nets import all_pairs, by_steps, drawn_net, of_threes, own_count_rank
from loadorloose.counting import count_rank, is_enough
from loadorloose.holding import stiffen
from loadorloose.placing import growth_rank, placed
from support import drawing, fraction_rank


def own_rows(points, pairs):
    """What the growth of each pair is in each motion that moves one joint along one axis."""
    rows = []
    for i, j in pairs:
        row = []
        for k in range(len(points)):
            for c in (0, 1):
                moves = {(k, c): 1}
                row.append(sum(
                    (points[i][d] - points[j][d]) * (moves.get((i, d), 0) - moves.get((j, d), 0)) for d in (0, 1)
                ))
        rows.append(row)
    return rows


class Ranks(unittest.TestCase):
    def check(self, points, pairs):
        """Check the rank that is told; return it."""
        kept = copy.deepcopy((points, pairs))
        found = growth_rank(points, pairs)
        self.assertEqual((points, pairs), kept)
        self.assertIs(type(found), int)
        self.assertEqual(found, fraction_rank(own_rows(points, pairs)), (points, pairs))
        return found

    def test_known(self):
        triangle = ((0, 1), (0, 2), (1, 2))
        self.assertEqual(self.check(((0, 0), (1, 0), (0, 1)), triangle), 3)
        self.assertEqual(self.check(((0, 0), (1, 0), (3, 0)), triangle), 2)
        square = tuple(all_pairs(4))
        self.assertEqual(self.check(((0, 0), (1, 0), (0, 1), (1, 1)), square), 5)
        self.assertEqual(self.check(((0, 0), (1, 0), (2, 0), (3, 0)), square), 3)
        # Three parallel pairs between two triangles tell less than others.
        prism = triangle + ((3, 4), (3, 5), (4, 5), (0, 3), (1, 4), (2, 5))
        self.assertEqual(self.check(((0, 0), (1, 0), (0, 1), (5, 3), (6, 3), (5, 4)), prism), 8)
        self.assertEqual(self.check(((0, 0), (1, 0), (0, 1), (5, 3), (9, 4), (5, 7)), prism), 9)

    def test_no_pairs(self):
        self.assertEqual(self.check(((0, 0),), ()), 0)
        self.assertEqual(self.check(((7, 7), (7, 7), (7, 7)), ()), 0)
        self.assertEqual(self.check(((1, 2), (3, 4)), []), 0)

    def test_drawn(self):
        draw = drawing(421)
        for places in ("far", "near", "line"):
            for _ in range(150):
                n = draw.randint(1, 7)
                points = drawn_points(draw, n, places)
                pairs = [(i, j) for i, j in drawn_net(draw, n)[1] if points[i] != points[j]]
                rank = self.check(points, draw.choice((tuple, list))(pairs))
                self.assertLessEqual(rank, own_count_rank(draw, n, pairs))
                if places == "line":
                    self.assertLessEqual(rank, n - 1)

    def test_points_at_one_place(self):
        draw = drawing(422)
        found = Counter()
        for _ in range(100):
            points = tuple(draw.choice(((0, 0), (2, 1), (4, 2), (1, 3))[:k]) for k in (1, 2, 3, 3, 4, 4))
            pairs = tuple((i, j) for i, j in all_pairs(6) if points[i] != points[j])
            found[self.check(points, pairs)] += 1
        self.assertGreater(len(found), 2)

    def test_as_many_as_there_may_be(self):
        draw = drawing(423)
        points = drawn_points(draw, 16, "far")
        self.assertEqual(self.check(points, tuple(all_pairs(16))), 29)
        self.assertEqual(self.check(tuple((k, 0) for k in range(16)), tuple(all_pairs(16))), 15)


class Places(unittest.TestCase):
    def check(self, net, rank=None):
        """Check the places that are told for a net, whose count rank may be given."""
        kept = copy.deepcopy(net)
        points = placed(net)
        self.assertEqual(net, kept)
        n, pairs = net
        self.assertIs(type(points), tuple)
        self.assertEqual(len(points), n)
        for point in points:
            self.assertIs(type(point), tuple)
            self.assertEqual(len(point), 2)
            self.assertTrue(all(type(c) is int and -1000 <= c <= 1000 for c in point))
        self.assertEqual(len(set(points)), n)
        self.assertEqual(fraction_rank(own_rows(points, pairs)), count_rank(net) if rank is None else rank)
        self.assertEqual(growth_rank(points, pairs), count_rank(net))
        return points

    def test_few_joints(self):
        self.check((1, ()), 0)
        self.check((2, ()), 0)
        self.check((2, ((0, 1),)), 1)
        self.check((3, ()), 0)
        self.check((3, ((0, 2), (1, 2), (0, 1))), 3)
        self.check((4, tuple(all_pairs(4))), 5)

    def test_drawn(self):
        draw = drawing(424)
        found = Counter()
        for _ in range(200):
            n = draw.randint(1, 8)
            net = drawn_net(draw, n, draw.choice((None, max(0, 2 * n - 3))))
            self.check(net, own_count_rank(draw, *net))
            found[is_enough(net)] += 1
        self.assertGreater(min(found.values()), 20)

    def test_enough_is_stiff_for_some_places(self):
        draw = drawing(425)
        for _ in range(40):
            n = draw.randint(2, 8)
            pairs = by_steps(draw, n, 0.5)
            for some, word in ((pairs, "stiff"), (pairs[1:], "bends")):
                members = tuple(pair + (None, None) for pair in some)
                self.assertEqual(stiffen((self.check((n, tuple(some))), members, ()))[0], word)

    def test_all_pairs_of_two_sets_of_joints(self):
        # These are of less rank than they count if all joints lie on one circle, or on two lines.
        self.check((6, tuple((i, j) for i in (0, 1, 2) for j in (3, 4, 5))), 9)
        self.check((9, tuple((i, j) for i in range(4) for j in range(4, 9))), 15)

    def test_sixteen_joints_with_all_pairs(self):
        self.check((16, tuple(all_pairs(16))), 29)

    def test_sixteen_joints_with_just_enough(self):
        draw = drawing(426)
        for share in (0, 0.5, 1):
            for _ in range(4):
                pairs = by_steps(draw, 16, share)
                self.check((16, tuple(pairs)), 29)
                self.check((16, tuple(pairs[5:])), 24)
        for _ in range(4):
            self.check((16, tuple(of_threes(draw, 16))), 29)

    def test_sixteen_joints_with_few(self):
        draw = drawing(427)
        self.check((16, ()), 0)
        for count in (1, 5, 15, 25):
            net = drawn_net(draw, 16, count)
            self.check(net, own_count_rank(draw, *net))


if __name__ == "__main__":
    unittest.main()
