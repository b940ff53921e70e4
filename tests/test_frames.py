"""Points 6 to 10: frames, motions, loads and tensions."""

import copy
import unittest
from collections import Counter
from fractions import Fraction

from drawn_frames import LARGE, drawn_frame, drawn_load, drawn_tensions, large_frame, load_of, noughts
from loadorloose.carrying import carry
from loadorloose.frames import carries, growth, is_allowed, missing, reactions, resistance, work
from own_sums import (
    is_balanced, own_allowed, own_growth, own_missing, own_resistance, own_within, own_work, value,
)
from support import drawing, is_number, number_of

BAR = (((0, 0), (3, 4)), ((0, 1, None, None),), ())
EMPTY = ((), (), ())


def drawn_motion(draw, frame, size):
    """A motion of vectors, noughts at the pins."""
    return tuple(
        (0, 0) if k in frame[2] else (draw.randint(-size, size), draw.randint(-size, size))
        for k in range(len(frame[0]))
    )


def drawn_number_motion(draw, frame, size):
    """A motion of numbers, noughts at the pins."""
    parts = (1, 2, 3, size)
    return tuple(
        tuple((0, 1) if k in frame[2] else number_of(Fraction(draw.randint(-size, size), draw.choice(parts)))
              for _ in (0, 1))
        for k in range(len(frame[0]))
    )


def with_limits(frame, pull, push):
    """The frame with these limits for all members."""
    points, members, pins = frame
    return points, tuple((i, j, pull, push) for i, j, _, _ in members), pins


class Motions(unittest.TestCase):
    def test_growth_of_one_member(self):
        self.assertEqual(growth(BAR, 0, ((0, 0), (1, 0))), 3)
        self.assertEqual(growth(BAR, 0, ((1, 0), (0, 0))), -3)
        self.assertEqual(growth(BAR, 0, ((0, 0), (-4, 3))), 0)
        self.assertEqual(growth(BAR, 0, ((0, 2), (0, 2))), 0)
        self.assertEqual(growth(BAR, 0, ((5, 7), (6, 9))), 3 + 8)

    def test_growth_of_one_member_in_a_motion_of_numbers(self):
        rest = ((0, 1), (0, 1))
        self.assertEqual(growth(BAR, 0, (rest, ((1, 2), (1, 3)))), (17, 6))
        self.assertEqual(growth(BAR, 0, (rest, ((1, 3), (0, 1)))), (1, 1))
        self.assertEqual(growth(BAR, 0, (rest, ((-4, 7), (3, 7)))), (0, 1))
        self.assertEqual(growth(BAR, 0, (rest, rest)), (0, 1))

    def test_drawn_vectors(self):
        draw = drawing(201)
        for _ in range(300):
            frame = drawn_frame(draw)
            motion = drawn_motion(draw, frame, draw.choice((1, 5, LARGE)))
            for k in range(len(frame[1])):
                found = growth(frame, k, motion)
                self.assertIs(type(found), int)
                self.assertEqual(found, own_growth(frame, k, motion))

    def test_drawn_numbers(self):
        draw = drawing(202)
        for _ in range(300):
            frame = drawn_frame(draw)
            motion = drawn_number_motion(draw, frame, draw.choice((1, 5, LARGE)))
            for k in range(len(frame[1])):
                found = growth(frame, k, motion)
                self.assertTrue(is_number(found))
                self.assertEqual(value(found), own_growth(frame, k, motion))

    def test_drawn_motions_are_allowed_or_not(self):
        draw = drawing(203)
        words = Counter()
        for _ in range(2000):
            frame = drawn_frame(draw, 4)
            motion = drawn_motion(draw, frame, 1)
            found = is_allowed(frame, motion)
            self.assertIs(found, own_allowed(frame, motion))
            words[found] += 1
            if found:
                resisted = resistance(frame, motion)
                self.assertIs(type(resisted), int)
                self.assertEqual(resisted, own_resistance(frame, motion))
                words["resisted"] += resisted > 0
        self.assertGreater(min(words[True], words[False], words["resisted"]), 150)

    def test_each_kind_of_limits(self):
        grows, shrinks, stays = ((0, 0), (2, 0)), ((0, 0), (-2, 0)), ((0, 0), (4, -3))
        for pull, push, allowed in (
            (None, None, (False, False)), (None, 0, (False, True)), (0, None, (True, False)), (0, 0, (True, True)),
            (None, 5, (False, True)), (7, None, (True, False)), (7, 5, (True, True)),
        ):
            frame = with_limits(BAR, pull, push)
            self.assertIs(is_allowed(frame, stays), True)
            self.assertEqual(resistance(frame, stays), 0)
            self.assertEqual((is_allowed(frame, grows), is_allowed(frame, shrinks)), allowed)
            if allowed[0]:
                self.assertEqual(resistance(frame, grows), 6 * pull)
            if allowed[1]:
                self.assertEqual(resistance(frame, shrinks), 6 * push)

    def test_resistance_is_a_sum(self):
        frame = (((0, 0), (1, 0), (0, 1)), ((0, 1, 2, 3), (0, 2, 5, 7), (1, 2, 0, 0)), ())
        self.assertEqual(resistance(frame, ((0, 0), (4, 0), (0, 4))), 2 * 4 + 5 * 4)
        self.assertEqual(resistance(frame, ((0, 0), (-1, 0), (0, -1))), 3 * 1 + 7 * 1)
        self.assertEqual(resistance(frame, ((0, 0), (-1, 0), (0, 1))), 3 * 1 + 5 * 1)

    def test_frames_without_members_or_joints(self):
        for frame in (EMPTY, (((1, 1), (1, 1)), (), ()), (((1, 1),), (), (0,))):
            motion = tuple((5, -3) for _ in frame[0])
            self.assertIs(is_allowed(frame, motion), True)
            self.assertEqual(resistance(frame, motion), 0)

    def test_large_limits(self):
        draw = drawing(204)
        frame = large_frame(draw, "large", 2)
        frame = with_limits(frame, LARGE, LARGE ** 9)
        motion = drawn_motion(draw, frame, LARGE)
        self.assertEqual(resistance(frame, motion), own_resistance(frame, motion))


class Work(unittest.TestCase):
    def test_known(self):
        self.assertEqual(work(((1, 2), (3, 4)), ((5, 6), (7, -8))), 5 + 12 + 21 - 32)
        halves = (((1, 2), (0, 1)), ((0, 1), (-3, 4)))
        self.assertEqual(work(((1, 5), (5, 2)), halves), (-1, 1))
        self.assertEqual(work(((3, 5), (5, 2)), halves), (0, 1))
        self.assertEqual(work(((0, 0), (5, 1)), halves), (-3, 4))

    def test_no_joints(self):
        self.assertEqual(work((), ()), 0)
        self.assertIs(type(work((), ())), int)

    def test_drawn(self):
        draw = drawing(205)
        for _ in range(500):
            frame = drawn_frame(draw)
            load = drawn_load(draw, frame)
            motion = drawn_motion(draw, frame, 9)
            found = work(load, motion)
            self.assertIs(type(found), int)
            self.assertEqual(found, own_work(load, motion))
            if frame[0]:
                motion = drawn_number_motion(draw, frame, draw.choice((1, 7, LARGE)))
                found = work(load, motion)
                self.assertTrue(is_number(found))
                self.assertEqual(value(found), own_work(load, motion))


class Tensions(unittest.TestCase):
    def judge(self, frame, load, tensions):
        """Check what is told of a load and tensions by the words of point 10; tell whether they carry it."""
        kept = copy.deepcopy((frame, load, tensions))
        lacking = missing(frame, load, tensions)
        self.assertIs(type(lacking), list)
        self.assertTrue(all(type(pair) is tuple and len(pair) == 2 for pair in lacking))
        self.assertTrue(all(is_number(n) for pair in lacking for n in pair))
        expected = own_missing(frame, load, tensions)
        self.assertEqual([[value(n) for n in pair] for pair in lacking], expected)
        found = carries(frame, load, tensions)
        self.assertIs(found, own_within(frame, tensions) and is_balanced(frame, load, tensions))
        held = reactions(frame, load, tensions)
        self.assertIs(type(held), tuple)
        self.assertTrue(all(is_number(n) for pair in held for n in pair))
        self.assertEqual([[value(n) for n in pair] for pair in held], [[-x for x in expected[k]] for k in frame[2]])
        self.assertTrue(all(type(pair) is tuple for pair in held))
        self.assertEqual((frame, load, tensions), kept)
        return found

    def test_drawn(self):
        draw = drawing(206)
        for _ in range(500):
            frame = drawn_frame(draw)
            size = draw.choice((1, 9, LARGE))
            tensions = tuple(
                number_of(Fraction(draw.randint(-size, size), draw.randint(1, size))) for _ in frame[1]
            )
            self.judge(frame, drawn_load(draw, frame), tensions)

    def test_drawn_loads_of_tensions(self):
        draw = drawing(207)
        for _ in range(300):
            frame = drawn_frame(draw)
            tensions = drawn_tensions(draw, frame)
            load = load_of(draw, frame, tensions)
            tensions = tuple((t, 1) for t in tensions)
            self.assertIs(self.judge(frame, load, tensions), True)
            if tensions:
                k = draw.randrange(len(tensions))
                other = number_of(tensions[k][0] + draw.choice((1, Fraction(1, 7))))
                self.judge(frame, load, tensions[:k] + (other,) + tensions[k + 1:])

    def test_at_the_limits_and_beyond(self):
        for tension, expected in (
            ((3, 1), True), ((-4, 1), True), ((7, 2), False), ((-9, 2), False), ((4, 1), False), ((-5, 1), False),
            ((3001, 1000), False), ((2999, 1000), True), ((-3999, 1000), True), ((-4001, 1000), False), ((0, 1), True),
        ):
            n, d = tension
            frame = (((0, 0), (d, 0)), ((0, 1, 3, 4),), (0,))
            self.assertIs(self.judge(frame, ((0, 0), (n, 0)), (tension,)), expected)

    def test_sides_without_limits(self):
        for pull, push, above, below in ((None, 0, True, False), (0, None, False, True), (None, None, True, True)):
            frame = (((0, 0), (2, 0)), ((0, 1, pull, push),), (0,))
            self.assertIs(self.judge(frame, ((0, 0), (2 * LARGE, 0)), ((LARGE, 1),)), above)
            self.assertIs(self.judge(frame, ((0, 0), (-2 * LARGE, 0)), ((-LARGE, 1),)), below)

    def test_which_way_a_tension_acts(self):
        frame = (((0, 0), (2, 1)), ((0, 1, None, None),), ())
        self.assertEqual(missing(frame, noughts(frame), ((3, 1),)), [((6, 1), (3, 1)), ((-6, 1), (-3, 1))])
        self.assertEqual(missing(frame, ((-6, -3), (7, 3)), ((3, 1),)), [((0, 1), (0, 1)), ((1, 1), (0, 1))])
        self.assertEqual(missing(frame, noughts(frame), ((1, 6),)), [((1, 3), (1, 6)), ((-1, 3), (-1, 6))])

    def test_reactions(self):
        frame = (((0, 0), (2, 0), (2, 5)), ((0, 1, None, None),), (0, 2))
        found = reactions(frame, ((1, 1), (3, 0), (4, 5)), ((3, 2),))
        self.assertEqual(found, (((-4, 1), (-1, 1)), ((-4, 1), (-5, 1))))

    def test_pins_need_no_balance(self):
        points = ((0, 0), (2, 0))
        for pins, expected in (((), False), ((0,), False), ((1,), False), ((0, 1), True)):
            frame = (points, ((0, 1, 5, 5),), pins)
            self.assertIs(self.judge(frame, ((1, 2), (3, 4)), ((1, 1),)), expected)
        frame = (points, ((0, 1, 5, 5),), (0, 1))
        self.assertIs(self.judge(frame, ((1, 2), (3, 4)), ((6, 1),)), False)

    def test_no_members_and_nothing(self):
        self.assertIs(self.judge(EMPTY, (), ()), True)
        self.assertEqual((missing(EMPTY, (), ()), reactions(EMPTY, (), ())), ([], ()))
        points = ((1, 1), (1, 1))
        self.assertIs(self.judge((points, (), ()), ((0, 0), (0, 0)), ()), True)
        self.assertIs(self.judge((points, (), ()), ((0, 0), (0, 1)), ()), False)
        self.assertIs(self.judge((points, (), (1,)), ((0, 0), (0, 1)), ()), True)

    def test_large_denominators(self):
        draw = drawing(208)
        for pins in (0, 3):
            frame = large_frame(draw, "large", pins)
            tensions = tuple(
                number_of(Fraction(draw.randint(-LARGE ** 9, LARGE ** 9), draw.randint(1, LARGE ** 9)))
                for _ in frame[1]
            )
            self.judge(frame, drawn_load(draw, frame), tensions)

    def test_what_carry_told(self):
        draw = drawing(209)
        frame = large_frame(draw, "bars", 3)
        load = drawn_load(draw, frame, LARGE)
        word, tensions = carry(frame, load)
        self.assertEqual(word, "tensions")
        self.assertIs(self.judge(frame, load, tensions), True)
        self.assertIs(self.judge(frame, load, tensions[1:] + tensions[:1]), False)

    def test_answers_are_new(self):
        missing(BAR, noughts(BAR), ((1, 1),)).append(None)
        self.assertEqual(len(missing(BAR, noughts(BAR), ((1, 1),))), 2)


if __name__ == "__main__":
    unittest.main()
