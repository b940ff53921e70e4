"""Points 14 and 15: rigid motions, proper tensions, frames that are held and frames that are stiff."""

import copy
import unittest
from collections import Counter
from fractions import Fraction

from drawn_frames import KINDS, drawn_frame, drawn_points, grid, large_frame
from loadorloose.holding import hold, is_proper, is_rigid, stiffen
from loadorloose.rows import kernel
from own_sums import (
    are_lowest_integers, freedom, is_lowest_motion, own_proper, own_rigid, right_hold, right_stiffen,
    rigid_freedom,
)
from support import drawing

BARS = ((0, 1, None, None), (0, 2, None, None), (1, 2, None, None))
SQUARE = ((0, 0), (1, 0), (0, 1), (1, 1))
SIDES = ((0, 1), (0, 2), (1, 3), (2, 3))


def rigid_motion(draw, points, size):
    """A rigid motion of vectors that is made of drawn rational numbers a, b and c."""
    a, b, c = (Fraction(draw.randint(-size, size), draw.randint(1, 6)) for _ in range(3))
    # Multiplied so that all vectors have integers
    return tuple((int(60 * (a - c * y)), int(60 * (b + c * x))) for x, y in points)


def with_limits(pairs, pull, push):
    """Members between pairs that all have these limits."""
    return tuple(pair + (pull, push) for pair in pairs)


def tight_frame(draw, frame):
    """A frame of bars of which those with a tension in drawn balanced tensions became cables and struts."""
    points, members, pins = frame
    columns = []
    for i, j, _, _ in members:
        column = [0] * (2 * len(points))
        for c in (0, 1):
            column[2 * i + c] = points[j][c] - points[i][c]
            column[2 * j + c] = points[i][c] - points[j][c]
        columns.append(column)
    rows = [tuple(row) for place, row in enumerate(zip(*columns)) if place // 2 not in pins]
    base = kernel(rows, len(members))
    shares = [draw.choice((-1, 1, 2)) for _ in base]
    tensions = [sum(share * one[k] for share, one in zip(shares, base)) for k in range(len(members))]
    limits = [(None, None) if t == 0 else (None, 0) if t > 0 else (0, None) for t in tensions]
    return points, tuple(m[:2] + limit for m, limit in zip(members, limits)), pins


class Rigid(unittest.TestCase):
    def judge(self, points, motion):
        """Check what is told of a motion by the words of point 14; return it."""
        found = is_rigid(points, motion)
        self.assertIs(found, own_rigid(points, motion))
        return found

    def test_made_of_three_numbers(self):
        draw = drawing(341)
        for places in ("far", "near", "line", "one"):
            for _ in range(100):
                points = drawn_points(draw, draw.randint(1, 7), places)
                self.assertIs(self.judge(points, rigid_motion(draw, points, draw.choice((1, 5, 10 ** 9)))), True)

    def test_rational_turns(self):
        # The first two turn by a half, the last ones by a third; no integers a, b and c do so.
        self.assertIs(self.judge(((0, 0), (2, 0), (4, 2)), ((0, 0), (0, 1), (-1, 2))), True)
        self.assertIs(self.judge(((0, 0), (2, 0), (4, 2)), ((0, 0), (0, 1), (-1, 3))), False)
        self.assertIs(self.judge(((1, 1), (4, 1), (1, 7)), ((0, 0), (0, 1), (-2, 0))), True)
        self.assertIs(self.judge(((1, 1), (4, 1), (1, 7)), ((5, 3), (5, 4), (3, 3))), True)

    def test_one_vector_changed(self):
        draw = drawing(342)
        found = Counter()
        for places in ("far", "near", "line", "one"):
            for _ in range(150):
                points = drawn_points(draw, draw.randint(1, 6), places)
                motion = list(rigid_motion(draw, points, 3))
                k = draw.randrange(len(points))
                motion[k] = (motion[k][0] + draw.choice((0, 1, -2)), motion[k][1] + draw.choice((0, 1, 60)))
                found[self.judge(points, tuple(motion))] += 1
        self.assertGreater(found[False], 200)
        self.assertGreater(found[True], 50)

    def test_drawn_small(self):
        draw = drawing(343)
        found = Counter()
        for _ in range(2000):
            points = drawn_points(draw, draw.randint(0, 3), draw.choice(("near", "line", "one")))
            motion = tuple((draw.randint(-1, 1), draw.randint(-1, 1)) for _ in points)
            found[self.judge(points, motion)] += 1
        self.assertGreater(min(found.values()), 300)

    def test_one_joint_and_none(self):
        self.assertIs(self.judge((), ()), True)
        self.assertIs(self.judge(((5, 7),), ((-3, 10 ** 12),)), True)

    def test_joints_at_one_place(self):
        self.assertIs(self.judge(((2, 3), (2, 3)), ((4, 5), (4, 5))), True)
        self.assertIs(self.judge(((2, 3), (2, 3)), ((4, 5), (4, 6))), False)
        self.assertIs(self.judge(((2, 3), (2, 3), (4, 3)), ((0, 0), (0, 0), (0, 2))), True)
        self.assertIs(self.judge(((2, 3), (4, 3), (2, 3)), ((0, 0), (0, 2), (0, 1))), False)

    def test_stretching(self):
        self.assertIs(self.judge(((0, 0), (2, 0)), ((0, 0), (1, 0))), False)
        self.assertIs(self.judge(((0, 0), (2, 0)), ((0, 0), (0, 1))), True)
        self.assertIs(self.judge(((0, 0), (2, 0), (4, 0)), ((0, 0), (0, 1), (0, 2))), True)
        self.assertIs(self.judge(((0, 0), (2, 0), (4, 0)), ((0, 0), (0, 1), (0, 3))), False)
        self.assertIs(self.judge(((0, 0), (2, 0), (0, 2)), ((0, 0), (0, 1), (1, 0))), False)


class Proper(unittest.TestCase):
    def judge(self, frame, tensions):
        """Check what is told of integers by the words of point 15; return it."""
        kept = copy.deepcopy((frame, tensions))
        found = is_proper(frame, tensions)
        self.assertIs(found, own_proper(frame, tensions))
        self.assertEqual((frame, tensions), kept)
        return found

    def test_signs(self):
        for pull, push, signs in (
            (None, None, (-1, 0, 1)), (None, 0, (1,)), (0, None, (-1,)), (0, 0, (0,)), (5, 7, (0,)), (None, 3, (1,)),
            (3, None, (-1,)), (0, 9, (0,)),
        ):
            frame = (((0, 0), (1, 0)), ((0, 1, pull, push),), (0, 1))
            for sign in (-1, 0, 1):
                for size in (1, 10 ** 12):
                    self.assertIs(self.judge(frame, (sign * size,)), sign in signs)

    def test_balance(self):
        # A square with diagonals bears tensions of its own.
        pairs = SIDES + ((0, 3), (1, 2))
        frame = (SQUARE, with_limits(pairs[:4], None, 0) + with_limits(pairs[4:], 0, None), ())
        self.assertIs(self.judge(frame, (1, 1, 1, 1, -1, -1)), True)
        self.assertIs(self.judge(frame, (5, 5, 5, 5, -5, -5)), True)
        self.assertIs(self.judge(frame, (-1, -1, -1, -1, 1, 1)), False)
        self.assertIs(self.judge(frame, (2, 1, 1, 1, -1, -1)), False)
        self.assertIs(self.judge(frame, (0, 0, 0, 0, 0, 0)), False)
        bars = (SQUARE, with_limits(pairs, None, None), ())
        self.assertIs(self.judge(bars, (-1, -1, -1, -1, 1, 1)), True)
        self.assertIs(self.judge(bars, (0, 0, 0, 0, 0, 0)), True)
        self.assertIs(self.judge(bars, (0, 0, 0, 0, 0, 1)), False)

    def test_pins_need_no_balance(self):
        points = ((0, 0), (1, 0), (2, 0))
        members = ((0, 1, None, 0), (1, 2, None, 0))
        for pins, tensions, expected in (
            ((0, 2), (1, 1), True), ((0, 2), (1, 2), False), ((), (1, 1), False), ((0, 1, 2), (1, 2), True),
            ((0,), (1, 1), False),
        ):
            self.assertIs(self.judge((points, members, pins), tensions), expected)

    def test_drawn(self):
        draw = drawing(344)
        found = Counter()
        for _ in range(600):
            frame = drawn_frame(draw, 4)
            for size in (0, 1, 2):
                found[self.judge(frame, tuple(draw.randint(-size, size) for _ in frame[1]))] += 1
        self.assertGreater(min(found.values()), 100)

    def test_told_ones(self):
        draw = drawing(345)
        found = Counter()
        for _ in range(500):
            frame = drawn_frame(draw, 6, ("ropes", "cables", "bars", "small"))
            word, part = stiffen(frame)
            if word != "stiff" or not part:
                continue
            self.assertIs(self.judge(frame, part), True)
            self.assertIs(self.judge(frame, tuple(2 * t for t in part)), True)
            found[self.judge(frame, tuple(-t for t in part))] += 1
            k = draw.randrange(len(part))
            found[self.judge(frame, part[:k] + (part[k] + draw.choice((-1, 1)),) + part[k + 1:])] += 1
        self.assertGreater(min(found.values()), 20)


class Checking(unittest.TestCase):
    def check(self, frame, held=None, stiff=None):
        """Check what `hold` and `stiffen` tell of a frame; held and stiff are the words that they must tell."""
        kept = copy.deepcopy(frame)
        holding, stiffening = hold(frame), stiffen(frame)
        self.assertEqual(frame, kept)
        self.check_form(frame, holding, ("held", "moves"))
        self.check_form(frame, stiffening, ("stiff", "bends"))
        self.assertTrue(right_hold(frame, holding))
        self.assertTrue(right_stiffen(frame, stiffening))
        if held is not None:
            self.assertEqual(holding[0], held)
        if stiff is not None:
            self.assertEqual(stiffening[0], stiff)
        return holding, stiffening

    def check_form(self, frame, answer, words):
        """Check that an answer has its form, in lowest terms."""
        self.assertIs(type(answer), tuple)
        word, part = answer
        if word == words[0]:
            self.assertIs(type(part), tuple)
            self.assertEqual(len(part), len(frame[1]))
            self.assertTrue(are_lowest_integers(part))
        else:
            self.assertEqual(word, words[1])
            self.assertTrue(is_lowest_motion(frame, part))


class Small(Checking):
    def test_bars(self):
        triangle = ((0, 0), (3, 0), (0, 4))
        self.check((triangle, BARS, ()), "moves", "stiff")
        self.check((triangle, BARS, (0,)), "moves", "stiff")
        self.check((triangle, BARS, (0, 1)), "held", "stiff")
        self.check((triangle, BARS[:2], (0, 1)), "moves", "bends")
        self.check((triangle, BARS[1:], (0, 1)), "held", "stiff")
        self.check((triangle, BARS[:2], ()), "moves", "bends")
        line = ((0, 0), (1, 0), (2, 0))
        self.check((line, BARS, ()), "moves", "bends")
        self.check((line, BARS, (0, 2)), "moves", "bends")
        square = (SQUARE, with_limits(SIDES, None, None), ())
        self.check(square, "moves", "bends")
        self.check((SQUARE, with_limits(SIDES + ((0, 3),), None, None), ()), "moves", "stiff")

    def test_bars_by_rank(self):
        draw = drawing(346)
        words = Counter()
        for _ in range(300):
            frame = drawn_frame(draw, 6, ("bars",))
            held = "held" if freedom(frame) == 0 else "moves"
            stiff = "stiff" if freedom(frame) == rigid_freedom(frame) else "bends"
            holding, stiffening = self.check(frame, held, stiff)
            words[holding[0], stiffening[0]] += 1
        self.assertEqual(set(words), {("held", "stiff"), ("moves", "stiff"), ("moves", "bends")})

    def test_cables_and_struts(self):
        cross = ((0, 3), (1, 2))
        tight = with_limits(SIDES, None, 0) + with_limits(cross, 0, None)
        self.check((SQUARE, tight, ()), "moves", "stiff")
        self.check((SQUARE, tight, (0, 1)), "held", "stiff")
        self.check((SQUARE, with_limits(SIDES, 0, None) + with_limits(cross, None, 0), ()), "moves", "stiff")
        self.check((SQUARE, with_limits(SIDES + cross, None, 0), ()), "moves", "bends")
        self.check((SQUARE, with_limits(SIDES + cross, 0, None), ()), "moves", "bends")
        self.check((SQUARE, tight[1:], ()), "moves", "bends")
        # Cables to pins all around hold a joint.
        points = ((0, 0), (5, 0), (-4, 3), (-4, -3))
        cables = ((0, 1, None, 0), (0, 2, None, 0), (0, 3, None, 0))
        self.check((points, cables, (1, 2, 3)), "held", "stiff")
        self.check((points, cables[:2], (1, 2, 3)), "moves", "bends")
        self.check((points, with_limits([c[:2] for c in cables], 0, None), (1, 2, 3)), "held", "stiff")
        self.check((points, cables[:1] + ((0, 2, 0, None), (0, 3, None, 0)), (1, 2, 3)), "moves", "bends")

    def test_a_bar_and_a_cable(self):
        # A cable may slacken where no other member keeps it tight.
        points = ((0, 0), (2, 0), (1, 1))
        members = ((0, 2, None, None), (1, 2, None, 0))
        self.check((points, members, (0, 1)), "moves", "bends")
        self.check((points, members[:1] + ((1, 2, None, None),), (0, 1)), "held", "stiff")

    def test_members_with_limits_on_both_sides_hold_nothing(self):
        draw = drawing(347)
        for pull, push in ((0, 0), (5, 7), (10 ** 12, 10 ** 12)):
            frame = (((0, 0), (3, 0), (0, 4)), with_limits(((0, 1), (0, 2), (1, 2)), pull, push), (0, 1))
            self.check(frame, "moves", "bends")
        for _ in range(60):
            points, members, pins = drawn_frame(draw, 5, ("bars", "ropes"))
            answers = self.check((points, members, pins))
            kept = [m for m in members if draw.random() < 0.7]
            soft = tuple(m if m in kept else m[:2] + (draw.randint(0, 5), draw.randint(0, 5)) for m in members)
            fewer = self.check((points, tuple(kept), pins))
            self.check((points, soft, pins), fewer[0][0], fewer[1][0])
            self.assertEqual(len(answers), 2)

    def test_any_limit_makes_a_cable(self):
        draw = drawing(348)
        for _ in range(60):
            points, members, pins = drawn_frame(draw, 6, ("ropes", "cables"))
            words = [answer[0] for answer in self.check((points, members, pins))]
            others = tuple(m[:2] + tuple(None if n is None else draw.randint(0, 9) for n in m[2:]) for m in members)
            self.check((points, others, pins), *words)

    def test_no_members(self):
        self.check((((0, 0),), (), ()), "moves", "stiff")
        self.check((((0, 0), (0, 0)), (), ()), "moves", "bends")
        self.check((((0, 0), (1, 0)), (), ()), "moves", "bends")
        self.check((((0, 0), (1, 0)), (), (0,)), "moves", "bends")
        self.check((((0, 0), (0, 0)), (), (0,)), "moves", "bends")
        self.check((((0, 0), (1, 0)), (), (0, 1)), "held", "stiff")
        self.assertEqual(self.check(((), (), ())), (("held", ()), ("stiff", ())))

    def test_all_joints_pinned(self):
        draw = drawing(349)
        for _ in range(30):
            points, members, _ = drawn_frame(draw)
            self.check((points, members, tuple(range(len(points)))), "held", "stiff")

    def test_free_frames_slide(self):
        draw = drawing(350)
        for _ in range(100):
            points, members, _ = drawn_frame(draw)
            if points:
                self.check((points, members, ()), "moves")

    def test_a_pinned_joint_turns(self):
        frame = (((0, 0), (2, 0), (2, 2)), BARS, (0,))
        holding, _ = self.check(frame, "moves", "stiff")
        self.assertTrue(own_rigid(frame[0], holding[1]))

    def test_drawn(self):
        draw = drawing(351)
        words = Counter()
        for kind in KINDS:
            for _ in range(200):
                frame = drawn_frame(draw, 6, (kind,))
                for word, _ in self.check(frame):
                    words[word] += 1
        self.assertGreater(min(words[word] for word in ("held", "moves", "stiff", "bends")), 100)

    def test_drawn_tight_frames(self):
        draw = drawing(352)
        for _ in range(100):
            frame = tight_frame(draw, large_frame(draw, "bars", draw.choice((0, 1, 2)), "near", 6, 12))
            bars = (frame[0], with_limits([m[:2] for m in frame[1]], None, None), frame[2])
            words = [answer[0] for answer in self.check(bars)]
            self.check(frame, *words)
            # All members turned about bear the tensions turned about.
            other = (frame[0], tuple(m[:2] + m[:1:-1] for m in frame[1]), frame[2])
            self.check(other, *words)


class Large(Checking):
    def test_greatest_counts(self):
        draw = drawing(353)
        words = Counter()
        for kind in KINDS:
            for pins in (0, 1, 2, 8, 16):
                for _ in range(2):
                    for word, _ in self.check(large_frame(draw, kind, pins, draw.choice(("far", "far", "near")))):
                        words[word] += 1
        self.assertGreater(min(words[word] for word in ("held", "moves", "stiff", "bends")), 5)

    def test_symmetries(self):
        draw = drawing(354)
        for kind in KINDS:
            for pins in ((), (0,), (0, 15), (0, 3, 12, 15)):
                self.check(grid(kind, draw, pins))

    def test_tight_frames_of_the_greatest_counts(self):
        draw = drawing(355)
        for pins in (0, 1, 3):
            for _ in range(3):
                frame = tight_frame(draw, large_frame(draw, "bars", pins))
                self.assertTrue(any(None in m and 0 in m[2:] for m in frame[1]))
                self.check(frame, "held" if pins > 1 else "moves", "stiff")


if __name__ == "__main__":
    unittest.main()
