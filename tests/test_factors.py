"""Point 12: how far a load may grow."""

import copy
import unittest
from collections import Counter

from drawn_frames import (
    KINDS, LARGE, drawn_frame, drawn_load, drawn_tensions, grid, large_frame, load_of, noughts, times_load,
)
from loadorloose.carrying import carry
from loadorloose.factors import greatest
from own_sums import are_numbers, is_lowest_motion, right_greatest, value
from support import drawing, is_number


def with_limits_times(frame, factor):
    """The frame with all limits multiplied."""
    points, members, pins = frame
    return points, tuple(m[:2] + tuple(n if n is None else n * factor for n in m[2:]) for m in members), pins


class Checking(unittest.TestCase):
    def check(self, frame, load, word=None):
        """Check the answer for a frame and a load; word tells which answer it must be."""
        kept = copy.deepcopy((frame, load))
        answer = greatest(frame, load)
        self.assertEqual((frame, load), kept)
        self.assertIs(type(answer), tuple)
        if answer[0] == "most":
            _, factor, tensions, motion = answer
            self.assertTrue(is_number(factor))
            self.assertTrue(is_lowest_motion(frame, motion))
        else:
            self.assertEqual(answer[0], "any")
            _, tensions = answer
        self.assertTrue(are_numbers(frame, tensions))
        self.assertTrue(right_greatest(frame, load, answer))
        if word is not None:
            self.assertEqual(answer[0], word)
        return answer


class Small(Checking):
    def test_the_example_of_the_document(self):
        frame = (((0, 0), (2, 0)), ((0, 1, 4, None),), (0,))
        self.assertEqual(greatest(frame, ((0, 0), (3, 0))), ("most", (8, 3), ((4, 1),), ((0, 0), (1, 0))))

    def test_one_member(self):
        for pull, push, force, expected in (
            (4, None, -3, None), (4, 5, -3, (10, 3)), (4, 5, 3, (8, 3)), (None, 5, 3, None), (None, 0, -3, (0, 1)),
            (0, None, 3, (0, 1)), (0, 0, 3, (0, 1)), (0, 0, -3, (0, 1)), (None, None, 3, None), (7, 7, 14, (1, 1)),
        ):
            frame = (((0, 0), (2, 0)), ((0, 1, pull, push),), (0,))
            answer = self.check(frame, ((0, 0), (force, 0)), "any" if expected is None else "most")
            if expected is not None:
                self.assertEqual(answer[1], expected)
            else:
                self.assertEqual(value(answer[1][0]) * 2, force)

    def test_drawn(self):
        draw = drawing(241)
        words = Counter()
        for kind in KINDS:
            for _ in range(150):
                frame = drawn_frame(draw, 6, (kind,))
                answer = self.check(frame, drawn_load(draw, frame))
                words[answer[0], answer[0] == "most" and answer[1][0] > 0] += 1
        self.assertGreater(min(words.values()), 10)
        self.assertEqual(len(words), 3)

    def test_drawn_loads_of_tensions(self):
        draw = drawing(242)
        words = Counter()
        for _ in range(400):
            frame = drawn_frame(draw)
            tensions = drawn_tensions(draw, frame)
            answer = self.check(frame, load_of(draw, frame, tensions))
            if answer[0] == "most":
                # These tensions carry the load once.
                self.assertGreaterEqual(value(answer[1]), 1)
            words[answer[0]] += 1
        self.assertGreater(min(words["most"], words["any"]), 50)

    def test_no_greater_load_is_carried(self):
        draw = drawing(243)
        for _ in range(100):
            frame = drawn_frame(draw)
            load = load_of(draw, frame, drawn_tensions(draw, frame))
            answer = greatest(frame, load)
            if answer[0] == "most":
                n, d = answer[1]
                for by, word in ((0, "tensions"), (1, "motion")):
                    more = times_load(load, n + by)
                    self.assertEqual(carry(with_limits_times(frame, d), more)[0], word)
            else:
                self.assertEqual(carry(frame, times_load(load, LARGE ** 2))[0], "tensions")

    def test_loads_of_noughts_have_no_bound(self):
        draw = drawing(244)
        for _ in range(60):
            frame = drawn_frame(draw)
            self.check(frame, noughts(frame), "any")
            at_pins = tuple((1, 2) if k in frame[2] else (0, 0) for k in range(len(frame[0])))
            self.check(frame, at_pins, "any")

    def test_a_factor_of_nought(self):
        draw = drawing(245)
        for _ in range(60):
            points, members, pins = drawn_frame(draw)
            frame = (points, tuple((i, j, 0, 0) for i, j, _, _ in members), pins)
            load = drawn_load(draw, frame, 3)
            if any(load[k] != (0, 0) for k in range(len(points)) if k not in pins):
                self.assertEqual(self.check(frame, load, "most")[1], (0, 1))
        self.assertEqual(self.check((((0, 0),), (), ()), ((3, 4),), "most")[1], (0, 1))

    def test_times_an_integer(self):
        draw = drawing(246)
        found = 0
        for _ in range(200):
            frame = drawn_frame(draw)
            load = load_of(draw, frame, drawn_tensions(draw, frame))
            answer = greatest(frame, load)
            by = draw.choice((2, 3, 7, LARGE))
            more_limits = self.check(with_limits_times(frame, by), load, answer[0])
            more_load = self.check(frame, times_load(load, by), answer[0])
            if answer[0] == "most":
                self.assertEqual(value(more_limits[1]), value(answer[1]) * by)
                self.assertEqual(value(more_load[1]) * by, value(answer[1]))
                found += 1
        self.assertGreater(found, 20)

    def test_frames_without_members_or_joints(self):
        self.assertEqual(self.check(((), (), ()), ()), ("any", ()))
        self.assertEqual(self.check((((1, 1), (1, 1)), (), ()), ((0, 0), (0, 0))), ("any", ()))
        self.check((((1, 1), (1, 1)), (), ()), ((0, 1), (0, -1)), "most")
        self.check((((1, 1), (2, 1)), ((0, 1, 3, 3),), (0, 1)), ((0, 1), (0, -1)), "any")

    def test_bars_alone(self):
        bars = ((0, 2, None, None), (1, 2, None, None))
        frame = (((0, 0), (6, 0), (3, 4)), bars, (0, 1))
        self.check(frame, ((0, 0), (0, 0), (5, -7)), "any")

    def test_the_weakest_member_tells(self):
        frame = (((0, 0), (6, 0), (3, 4)), ((0, 2, 9, 10), (1, 2, 9, 15)), (0, 1))
        # Each member takes an eighth of what is on the top.
        self.assertEqual(self.check(frame, ((0, 0), (0, 0), (0, -1)), "most")[1], (80, 1))
        self.assertEqual(self.check(frame, ((0, 0), (0, 0), (0, 1)), "most")[1], (72, 1))


class Large(Checking):
    def test_greatest_counts(self):
        draw = drawing(247)
        for kind in KINDS:
            for pins in (0, 1, 6):
                frame = large_frame(draw, kind, pins)
                self.check(frame, drawn_load(draw, frame, LARGE))
                self.check(frame, load_of(draw, frame, drawn_tensions(draw, frame, 10 ** 8)))

    def test_symmetries(self):
        draw = drawing(248)
        for kind in KINDS:
            for pins in ((), (0, 3)):
                frame = grid(kind, draw, pins)
                self.check(frame, load_of(draw, frame, drawn_tensions(draw, frame)))
                self.check(frame, tuple((0, -1) for _ in range(16)))

    def test_limits_and_forces_of_any_size(self):
        draw = drawing(249)
        for limits in ((LARGE ** 40,), (1, LARGE, LARGE ** 9, LARGE ** 40, None)):
            points, members, pins = large_frame(draw, "both", 2)
            frame = (points, tuple((i, j, draw.choice(limits), draw.choice(limits)) for i, j, _, _ in members), pins)
            tensions = tuple(draw.randint(-(push or 0), pull or 0) for _, _, pull, push in frame[1])
            self.check(frame, load_of(draw, frame, tensions), "most")
            self.check(frame, times_load(drawn_load(draw, frame, LARGE), LARGE ** 9))

    def test_limits_made_of_an_answer(self):
        draw = drawing(250)
        frame = large_frame(draw, "both", 3)
        load = drawn_load(draw, frame, LARGE)
        _, factor, tensions, motion = self.check(frame, load, "most")
        points, members, pins = frame
        limits = tuple((i, j, abs(n), d) for (i, j, _, _), (n, d) in zip(members, tensions))
        self.check((points, limits, pins), load)
        self.check(frame, tuple((factor[0] * x, factor[1] * y) for x, y in motion))


if __name__ == "__main__":
    unittest.main()
