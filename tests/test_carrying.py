"""Point 11: tensions that carry a load, or a motion that drives it."""

import copy
import unittest
from collections import Counter

from drawn_frames import (
    KINDS, LARGE, drawn_frame, drawn_load, drawn_tensions, grid, large_frame, load_of, noughts, times_load,
)
from loadorloose.carrying import carry
from own_sums import are_numbers, is_lowest_motion, right_carry
from support import drawing

EMPTY = ((), (), ())


class Checking(unittest.TestCase):
    def check(self, frame, load, word=None):
        """Check the answer for a frame and a load; word tells which answer it must be."""
        kept = copy.deepcopy((frame, load))
        answer = carry(frame, load)
        self.assertEqual((frame, load), kept)
        self.assertIs(type(answer), tuple)
        self.assertEqual(len(answer), 2)
        if answer[0] == "tensions":
            self.assertTrue(are_numbers(frame, answer[1]))
        else:
            self.assertEqual(answer[0], "motion")
            self.assertTrue(is_lowest_motion(frame, answer[1]))
        self.assertTrue(right_carry(frame, load, answer))
        if word is not None:
            self.assertEqual(answer[0], word)
        return answer


class Small(Checking):
    def test_the_examples_of_the_document(self):
        frame = (((0, 0), (2, 0)), ((0, 1, None, None),), (0,))
        self.assertEqual(carry(frame, ((0, 0), (3, 0))), ("tensions", ((3, 2),)))
        self.assertEqual(carry(frame, ((0, 0), (0, 5))), ("motion", ((0, 0), (0, 1))))

    def test_one_member_up_to_its_limits(self):
        for pull, push, carried in (
            (3, 2, range(-4, 7)), (0, 0, range(1)), (None, 0, range(0, 30)), (0, None, range(-30, 1)),
            (None, 2, range(-4, 30)), (3, None, range(-30, 7)), (None, None, range(-30, 30)),
        ):
            frame = (((0, 0), (2, 0)), ((0, 1, pull, push),), (0,))
            for force in range(-9, 10):
                word = "tensions" if force in carried else "motion"
                answer = self.check(frame, ((0, 0), (force, 0)), word)
                if word == "motion":
                    self.assertEqual(answer[1][1][0], 1 if force > 0 else -1)

    def test_drawn(self):
        draw = drawing(221)
        for kind in KINDS:
            words = Counter()
            for _ in range(150):
                frame = drawn_frame(draw, 6, (kind,))
                words[self.check(frame, drawn_load(draw, frame))[0]] += 1
            self.assertGreater(min(words["tensions"], words["motion"]), 20)

    def test_loads_of_drawn_tensions_are_carried(self):
        draw = drawing(222)
        for _ in range(500):
            frame = drawn_frame(draw)
            self.check(frame, load_of(draw, frame, drawn_tensions(draw, frame)), "tensions")

    def test_loads_at_the_limits(self):
        # The tensions of a frame without a choice are at a limit, and one step beyond it.
        draw = drawing(223)
        for _ in range(60):
            points = ((0, 0), (draw.randint(1, 9), draw.randint(1, 9)), (-draw.randint(1, 9), draw.randint(1, 9)))
            pull, push = draw.randint(0, 3), draw.randint(0, 3)
            frame = (points, ((0, 1, pull, push), (0, 2, LARGE, LARGE)), (1, 2))
            other = draw.randint(-9, 9)
            for tension in (pull, pull + 1, -push, -push - 1):
                load = load_of(draw, frame, (tension, other))
                self.check(frame, load, "tensions" if -push <= tension <= pull else "motion")

    def test_loads_of_noughts_are_carried(self):
        draw = drawing(224)
        for _ in range(100):
            frame = drawn_frame(draw)
            self.check(frame, noughts(frame), "tensions")

    def test_loads_at_pins_alone_are_carried(self):
        draw = drawing(225)
        for _ in range(100):
            frame = drawn_frame(draw)
            load = tuple((draw.randint(-9, 9), 7) if k in frame[2] else (0, 0) for k in range(len(frame[0])))
            self.check(frame, load, "tensions")

    def test_members_with_limits_of_nought_carry_nothing(self):
        draw = drawing(226)
        for _ in range(50):
            points, members, pins = drawn_frame(draw)
            frame = (points, tuple((i, j, 0, 0) for i, j, _, _ in members), pins)
            load = drawn_load(draw, frame, 2)
            loaded = any(load[k] != (0, 0) for k in range(len(points)) if k not in pins)
            self.check(frame, load, "motion" if loaded else "tensions")

    def test_no_members(self):
        points = ((1, 1), (1, 1), (5, 2))
        self.check((points, (), ()), ((0, 0), (0, 0), (0, 0)), "tensions")
        self.check((points, (), ()), ((0, 0), (0, -3), (0, 0)), "motion")
        self.check((points, (), (1,)), ((0, 0), (0, -3), (0, 0)), "tensions")

    def test_no_joints(self):
        self.assertEqual(self.check(EMPTY, ()), ("tensions", ()))

    def test_all_joints_pinned(self):
        frame = (((0, 0), (1, 0)), ((0, 1, 5, 3),), (0, 1))
        self.check(frame, ((8, 9), (-7, 6)), "tensions")

    def test_one_joint(self):
        self.check((((4, 4),), (), ()), ((0, 0),), "tensions")
        self.check((((4, 4),), (), ()), ((0, -6),), "motion")
        self.check((((4, 4),), (), (0,)), ((0, -6),), "tensions")

    def test_free_frames_carry_only_balanced_loads(self):
        bars = ((0, 1, None, None), (0, 2, None, None), (1, 2, None, None))
        frame = (((0, 0), (4, 0), (0, 3)), bars, ())
        self.check(frame, ((1, 0), (-1, 0), (0, 0)), "tensions")
        self.check(frame, ((0, 0), (-4, 3), (4, -3)), "tensions")
        self.check(frame, ((1, 0), (0, 0), (0, 0)), "motion")
        self.check(frame, ((0, 1), (0, -1), (0, 0)), "motion")

    def test_joints_in_a_line(self):
        frame = (((0, 0), (1, 0), (2, 0)), ((0, 1, None, None), (1, 2, None, None)), (0, 2))
        self.check(frame, ((0, 0), (5, 0), (0, 0)), "tensions")
        self.check(frame, ((0, 0), (5, 1), (0, 0)), "motion")

    def test_joints_at_one_place(self):
        frame = (((0, 0), (0, 0), (2, 0)), ((0, 2, None, 0), (1, 2, 0, None)), (2,))
        self.check(frame, ((-3, 0), (4, 0), (0, 0)), "tensions")
        self.check(frame, ((3, 0), (4, 0), (0, 0)), "motion")
        self.check(frame, ((-3, 0), (-4, 0), (0, 0)), "motion")

    def test_cables_and_struts(self):
        points = ((0, 0), (6, 0), (3, 4))
        hanging = (points, ((0, 2, None, 0), (1, 2, None, 0)), (0, 1))
        standing = (points, ((0, 2, 0, None), (1, 2, 0, None)), (0, 1))
        for force, up in (((0, 5), True), ((3, 4), True), ((4, 4), None), ((0, -5), False), ((1, 0), None)):
            load = ((0, 0), (0, 0), force)
            self.check(hanging, load, "tensions" if up is True else "motion")
            self.check(standing, load, "tensions" if up is False else "motion")

    def test_a_strut_keeps_cables_tight(self):
        # Without the strut the cables would slacken.
        points = ((0, 0), (4, 0), (2, 2), (2, -2))
        cables = ((0, 2, None, 0), (1, 2, None, 0), (0, 3, None, 0), (1, 3, None, 0))
        load = ((-1, 0), (1, 0), (0, -1), (0, 1))
        self.check((points, cables, ()), load, "motion")
        self.check((points, cables + ((2, 3, 0, None),), ()), load, "tensions")


class Large(Checking):
    def test_greatest_counts(self):
        draw = drawing(227)
        for kind in KINDS:
            for pins in (0, 1, 3, 9):
                frame = large_frame(draw, kind, pins, draw.choice(("far", "far", "near", "line")))
                self.check(frame, drawn_load(draw, frame, LARGE))
                self.check(frame, load_of(draw, frame, drawn_tensions(draw, frame, LARGE // 10000)), "tensions")

    def test_symmetries(self):
        draw = drawing(228)
        for kind in KINDS:
            for pins in ((), (0,), (0, 3), (0, 3, 12, 15)):
                frame = grid(kind, draw, pins)
                self.check(frame, load_of(draw, frame, drawn_tensions(draw, frame)), "tensions")
                self.check(frame, tuple((0, -1) for _ in range(16)))
                self.check(frame, noughts(frame), "tensions")

    def test_limits_and_forces_of_any_size(self):
        draw = drawing(229)
        for size in (LARGE ** 3, LARGE ** 40):
            points, members, pins = large_frame(draw, "both", 2)
            members = tuple(m[:2] + (draw.randint(0, size), draw.randint(0, size)) for m in members)
            frame = (points, members, pins)
            tensions = tuple(draw.randint(-push, pull) for _, _, pull, push in members)
            self.check(frame, load_of(draw, frame, tensions), "tensions")
            self.check(frame, times_load(drawn_load(draw, frame, LARGE), size), "motion")

    def test_limits_and_forces_of_sizes_that_differ(self):
        draw = drawing(230)
        for _ in range(4):
            points, members, pins = large_frame(draw, "both", 2)
            limits = (0, 1, LARGE, LARGE ** 9, LARGE ** 40, None)
            frame = (points, tuple((i, j, draw.choice(limits), draw.choice(limits)) for i, j, _, _ in members), pins)
            tensions = tuple(draw.randint(-(push or 0), pull or 0) for _, _, pull, push in frame[1])
            self.check(frame, load_of(draw, frame, tensions), "tensions")
            self.check(frame, times_load(drawn_load(draw, frame, 5), LARGE ** 9))

    def test_forces_made_of_an_answer(self):
        draw = drawing(231)
        frame = large_frame(draw, "bars", 3)
        _, tensions = self.check(frame, drawn_load(draw, frame, LARGE), "tensions")
        whole = tuple(n for n, _ in tensions)
        load = load_of(draw, frame, whole)
        points, members, pins = frame
        limits = tuple((i, j, abs(n), abs(n)) for (i, j, _, _), n in zip(members, whole))
        self.check((points, limits, pins), load, "tensions")


if __name__ == "__main__":
    unittest.main()
