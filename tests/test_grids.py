"""Points 21 and 22: grids, their frames, and the ways that tell whether these are stiff."""

import copy
import unittest
from collections import Counter
from itertools import chain, combinations

from loadorloose.grids import grid_frame, grid_motion, grid_stiff, parted
from loadorloose.holding import stiffen
from loadorloose.judging import is_stiffen
from own_sums import flat, is_lowest_motion, own_allowed, own_rigid, right_stiffen
from support import drawing


def drawn_braces(draw, r, c, share, kinds=("bar", "up", "down", "both")):
    """Braces in a share of the squares, in a drawn order."""
    found = []
    for row in range(r):
        for column in range(c):
            if draw.random() < share:
                kind = draw.choice(kinds)
                found += [(row, column, word) for word in (("up", "down") if kind == "both" else (kind,))]
    draw.shuffle(found)
    return found


def drawn_grid(draw):
    """A grid of any size with any braces."""
    r, c = draw.randint(1, 3), draw.randint(1, 3)
    kinds = draw.choice((("bar",), ("up", "down"), ("bar", "up", "down", "both"), ("up",), ("down", "both")))
    return r, c, drawn_braces(draw, r, c, draw.choice((0, 0.5, 0.7, 0.9, 1)), kinds)


def own_frame(r, c, braces):
    """The frame of a grid, made of the places of its members."""
    points = tuple((x, y) for y in range(r + 1) for x in range(c + 1))
    found = {}
    for p, q in combinations(points, 2):
        if abs(p[0] - q[0]) + abs(p[1] - q[1]) == 1:
            found[p, q] = (None, None)
    for row, column, kind in braces:
        low, high = (row + 1, row) if kind == "down" else (row, row + 1)
        found[(column, low), (column + 1, high)] = (None, None) if kind == "bar" else (None, 0)
    members = sorted(tuple(sorted(map(points.index, ends))) + limits for ends, limits in found.items())
    return points, tuple(members), ()


def own_reached(r, c, braces):
    """For each row and column those to which ways lead, by going ways as often as there are any more."""
    names = [("row", k) for k in range(r)] + [("column", k) for k in range(c)]
    found = {name: {name} for name in names}
    single = set()
    for row, column, kind in braces:
        if kind in ("bar", "up"):
            single.add((("row", row), ("column", column)))
        if kind in ("bar", "down"):
            single.add((("column", column), ("row", row)))
    for _ in names:
        for start in names:
            found[start] |= {end for begin, end in single if begin in found[start]}
    return found, single


class Checking(unittest.TestCase):
    def check(self, r, c, braces, stiff=None):
        """Check all that is told of a grid; return whether it is stiff."""
        kept = copy.deepcopy(braces)
        told = grid_stiff(r, c, braces)
        there, single = own_reached(r, c, braces)
        self.assertIs(told, all(len(some) == r + c for some in there.values()), (r, c, braces))
        if stiff is not None:
            self.assertIs(told, stiff)
        self.check_frame(r, c, braces)
        self.check_motion(r, c, braces, told)
        self.check_parted(r, c, braces, told, single)
        self.assertEqual(braces, kept)
        return told

    def check_frame(self, r, c, braces):
        """Check the frame of a grid in full."""
        frame = grid_frame(r, c, braces)
        self.assertEqual(frame, own_frame(r, c, braces))
        self.assertEqual([type(part) for part in frame], [tuple] * 3)
        for item in chain(frame[0], frame[1]):
            self.assertIs(type(item), tuple)
            self.assertTrue(all(n is None or type(n) is int for n in item))

    def check_motion(self, r, c, braces, stiff):
        """Check the motion that is told of a grid."""
        motion = grid_motion(r, c, braces)
        if stiff:
            self.assertIsNone(motion)
            return
        frame = own_frame(r, c, braces)
        self.assertTrue(is_lowest_motion(frame, motion))
        self.assertTrue(all(type(n) is int for n in flat(motion)))
        self.assertTrue(own_allowed(frame, motion))
        self.assertFalse(own_rigid(frame[0], motion))
        self.assertTrue(right_stiffen(frame, ("bends", motion)))
        self.assertIs(is_stiffen(frame, ("bends", motion)), True)

    def check_parted(self, r, c, braces, stiff, single):
        """Check the lists of rows and of columns that are told of a grid."""
        found = parted(r, c, braces)
        if stiff:
            self.assertIsNone(found)
            return
        self.assertIs(type(found), tuple)
        rows, columns = found
        for some, count in ((rows, r), (columns, c)):
            self.assertIs(type(some), list)
            self.assertTrue(all(type(k) is int and 0 <= k < count for k in some))
            self.assertEqual(some, sorted(set(some)))
        self.assertTrue(0 < len(rows) + len(columns) < r + c)
        inside = {("row", k) for k in rows} | {("column", k) for k in columns}
        self.assertFalse([way for way in single if way[0] in inside and way[1] not in inside])


class Grids(Checking):
    def test_one_square(self):
        for braces, stiff in (
            ([], False), ([(0, 0, "bar")], True), ([(0, 0, "up")], False), ([(0, 0, "down")], False),
            ([(0, 0, "up"), (0, 0, "down")], True), ([(0, 0, "down"), (0, 0, "up")], True),
        ):
            self.check(1, 1, braces, stiff)

    def test_frame_of_one_square(self):
        points = ((0, 0), (1, 0), (0, 1), (1, 1))
        sides = [(0, 1, None, None), (0, 2, None, None), (1, 3, None, None), (2, 3, None, None)]
        self.assertEqual(grid_frame(1, 1, []), (points, tuple(sides), ()))
        for braces, more in (
            ([(0, 0, "bar")], [(0, 3, None, None)]), ([(0, 0, "up")], [(0, 3, None, 0)]),
            ([(0, 0, "down")], [(1, 2, None, 0)]),
            ([(0, 0, "down"), (0, 0, "up")], [(0, 3, None, 0), (1, 2, None, 0)]),
        ):
            self.assertEqual(grid_frame(1, 1, braces), (points, tuple(sorted(sides + more)), ()))

    def test_frame_of_more_rows_than_columns(self):
        frame = grid_frame(2, 1, [(1, 0, "down")])
        self.assertEqual(frame[0], ((0, 0), (1, 0), (0, 1), (1, 1), (0, 2), (1, 2)))
        self.assertIn((3, 4, None, 0), frame[1])
        self.assertEqual(len(frame[1]), 8)

    def test_no_braces(self):
        for r in (1, 2, 3):
            for c in (1, 2, 3):
                self.check(r, c, [], False)

    def test_one_row_or_one_column(self):
        for n in (1, 2, 3):
            for kinds in (("bar",), ("up", "down")):
                row = [(0, k, kind) for k in range(n) for kind in kinds]
                column = [(k, 0, kind) for k in range(n) for kind in kinds]
                self.check(1, n, row, True)
                self.check(n, 1, column, True)
                self.check(1, n, row[1:], False)
                self.check(n, 1, column[:-1], False)

    def test_ways_in_one_direction_alone(self):
        for r in (1, 2, 3):
            for c in (1, 2, 3):
                for kind in ("up", "down"):
                    self.check(r, c, [(row, column, kind) for row in range(r) for column in range(c)], False)

    def test_a_ring_of_cables(self):
        ring = [(0, 0, "up"), (1, 0, "down"), (1, 1, "up"), (0, 1, "down")]
        self.check(2, 2, ring, True)
        for k in range(4):
            self.check(2, 2, ring[:k] + ring[k + 1:], False)
            row, column, kind = ring[k]
            other = {"up": "down", "down": "up"}[kind]
            self.check(2, 2, ring[:k] + [(row, column, other)] + ring[k + 1:], False)
            self.check(2, 2, ring[:k] + [(row, column, "bar")] + ring[k + 1:], True)

    def test_bars_in_a_tree(self):
        tree = [(0, 0, "bar"), (0, 1, "bar"), (1, 1, "bar"), (1, 2, "bar"), (2, 2, "bar")]
        self.check(3, 3, tree, True)
        for k in range(5):
            self.check(3, 3, tree[:k] + tree[k + 1:], False)

    def test_lists_that_are_empty(self):
        # From the column no way leads to the row, so it stands alone, or the row does.
        self.assertEqual(parted(1, 1, [(0, 0, "up")]), ([], [0]))
        self.assertEqual(parted(1, 1, [(0, 0, "down")]), ([0], []))

    def test_drawn(self):
        draw = drawing(461)
        found = Counter()
        for _ in range(700):
            found[self.check(*drawn_grid(draw))] += 1
        self.assertGreater(min(found.values()), 100)

    def test_stiff_as_the_frame_is(self):
        draw = drawing(462)
        found = Counter()
        for _ in range(250):
            r, c, braces = drawn_grid(draw)
            frame = grid_frame(r, c, braces)
            answer = stiffen(frame)
            self.assertTrue(right_stiffen(frame, answer))
            self.assertIs(answer[0] == "stiff", grid_stiff(r, c, braces), (r, c, braces))
            found[answer[0]] += 1
        self.assertGreater(min(found.values()), 40)

    def test_three_by_three(self):
        draw = drawing(463)
        squares = [(row, column) for row in range(3) for column in range(3)]
        crossed = [square + (kind,) for square in squares for kind in ("up", "down")]
        self.check(3, 3, crossed, True)
        self.assertEqual(len(grid_frame(3, 3, crossed)[1]), 42)
        self.check(3, 3, [square + ("bar",) for square in squares], True)
        found = Counter()
        for _ in range(200):
            found[self.check(3, 3, draw.sample(crossed, draw.randint(6, 14)))] += 1
        self.assertGreater(min(found.values()), 20)

    def test_answers_are_new(self):
        braces = [(0, 0, "up")]
        for some in parted(2, 2, braces):
            some.append(None)
        self.check(2, 2, braces, False)


if __name__ == "__main__":
    unittest.main()
