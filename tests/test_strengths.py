"""Point 13: the uses of members, and the cheapest strengths for several loads."""

import copy
import unittest
from collections import Counter
from fractions import Fraction

from drawn_frames import (
    KINDS, LARGE, drawn_frame, drawn_load, drawn_tensions, large_frame, load_of, noughts, times_load,
)
from loadorloose.strengths import cheapest, use
from own_sums import are_numbers, is_lowest_motion, own_use, right_cheapest, value
from support import drawing, is_number, number_of


def drawn_costs(draw, frame, most=9):
    """Costs of the members."""
    return tuple(draw.randint(1, most) for _ in frame[1])


class Use(unittest.TestCase):
    def test_one_member(self):
        points = ((0, 0), (3, 4))
        grows, shrinks, stays = ((0, 0), (2, 0)), ((0, 0), (-2, 0)), ((0, 0), (4, -3))
        for pull, push, growing, shrinking in (
            (None, None, 6, 6), (5, 7, 6, 6), (None, 0, 6, 0), (0, None, 0, 6), (0, 0, 0, 0), (1, 0, 6, 0),
            (0, LARGE, 0, 6), (0, 1, 0, 6), (LARGE, 0, 6, 0),
        ):
            frame = (points, ((0, 1, pull, push),), ())
            self.assertEqual([use(frame, 0, motion) for motion in (grows, shrinks, stays)], [growing, shrinking, 0])
            thirds = [tuple(tuple((n, 3) if n % 3 else (n // 3, 1) for n in v) for v in m) for m in (grows, shrinks)]
            found = [use(frame, 0, motion) for motion in thirds]
            self.assertEqual(found, [(growing // 3, 1), (shrinking // 3, 1)])

    def test_drawn(self):
        draw = drawing(261)
        for _ in range(400):
            frame = drawn_frame(draw)
            size = draw.choice((1, 9, LARGE))
            motion = tuple((draw.randint(-size, size), draw.randint(-size, size)) for _ in frame[0])
            numbers = tuple(
                tuple(number_of(Fraction(draw.randint(-size, size), draw.randint(1, size))) for _ in (0, 1))
                for _ in frame[0]
            )
            for k in range(len(frame[1])):
                found = use(frame, k, motion)
                self.assertIs(type(found), int)
                self.assertEqual(found, own_use(frame, k, motion))
                found = use(frame, k, numbers)
                self.assertTrue(is_number(found))
                self.assertEqual(value(found), own_use(frame, k, numbers))


class Checking(unittest.TestCase):
    def check(self, frame, costs, loads, word=None):
        """Check the answer for a frame, costs and loads; word tells which answer it must be."""
        kept = copy.deepcopy((frame, costs, loads))
        answer = cheapest(frame, costs, loads)
        self.assertEqual((frame, costs, loads), kept)
        self.assertIs(type(answer), tuple)
        if answer[0] == "cost":
            self.check_form(frame, loads, *answer[1:])
        else:
            _, k, motion = answer
            self.assertEqual(answer[0], "never")
            self.assertIs(type(k), int)
            self.assertTrue(is_lowest_motion(frame, motion))
        self.assertTrue(right_cheapest(frame, costs, loads, answer))
        if word is not None:
            self.assertEqual(answer[0], word)
        return answer

    def check_form(self, frame, loads, cost, strengths, tensions, motions):
        """Check that the parts have their forms."""
        self.assertTrue(is_number(cost))
        self.assertTrue(are_numbers(frame, strengths))
        self.assertEqual((type(tensions), type(motions)), (list, list))
        self.assertEqual((len(tensions), len(motions)), (len(loads), len(loads)))
        self.assertTrue(all(are_numbers(frame, some) for some in tensions))
        for motion in motions:
            self.assertIs(type(motion), tuple)
            self.assertEqual(len(motion), len(frame[0]))
            for vector in motion:
                self.assertIs(type(vector), tuple)
                self.assertEqual(len(vector), 2)
                self.assertTrue(all(is_number(n) for n in vector))


class Cheapest(Checking):
    def test_one_member(self):
        frame = (((0, 0), (2, 0)), ((0, 1, 7, None),), (0,))
        answer = self.check(frame, (5,), [((0, 0), (3, 0))], "cost")
        self.assertEqual(answer[1:4], ((15, 2), ((3, 2),), [((3, 2),)]))
        answer = self.check(frame, (5,), [((0, 0), (3, 0)), ((0, 0), (-8, 0))], "cost")
        self.assertEqual(answer[1:4], ((20, 1), ((4, 1),), [((3, 2),), ((-4, 1),)]))
        answer = self.check(frame, (5,), [((0, 0), (3, 0)), ((0, 0), (0, 1))], "never")
        self.assertEqual(answer[1], 1)

    def test_limits_that_are_not_nought_do_not_matter(self):
        draw = drawing(262)
        for _ in range(60):
            frame = drawn_frame(draw, 5)
            points, members, pins = frame
            others = [m[:2] + tuple(n if n == 0 else draw.choice((None, 1, LARGE)) for n in m[2:]) for m in members]
            costs, loads = drawn_costs(draw, frame), [drawn_load(draw, frame, 3)]
            answer = self.check(frame, costs, loads)
            other = self.check((points, tuple(others), pins), costs, loads, answer[0])
            if answer[0] == "cost":
                self.assertEqual(other[1], answer[1])

    def test_the_cheaper_way(self):
        # A bar across carries the load; two bars in its stead cost more or less.
        points = ((0, 0), (1, 0), (0, 1), (-1, 1))
        members = ((0, 1, None, None), (0, 2, None, None), (0, 3, None, None))
        load = [((1, 0), (0, 0), (0, 0), (0, 0))]
        frame = (points, members, (1, 2, 3))
        self.assertEqual(self.check(frame, (1, 1, 1), load)[1:3], ((1, 1), ((1, 1), (0, 1), (0, 1))))
        self.assertEqual(self.check(frame, (9, 2, 3), load)[1:3], ((5, 1), ((0, 1), (1, 1), (1, 1))))

    def test_drawn(self):
        draw = drawing(263)
        words = Counter()
        for kind in KINDS:
            for _ in range(80):
                frame = drawn_frame(draw, 5, (kind,))
                loads = [drawn_load(draw, frame) for _ in range(draw.randint(1, 3))]
                words[self.check(frame, drawn_costs(draw, frame), loads)[0]] += 1
        self.assertGreater(min(words["cost"], words["never"]), 60)

    def test_drawn_loads_of_tensions_are_carried(self):
        draw = drawing(264)
        for _ in range(250):
            frame = drawn_frame(draw, 6)
            costs = drawn_costs(draw, frame, draw.choice((1, 9, 1000)))
            parts = [drawn_tensions(draw, frame) for _ in range(draw.randint(1, 3))]
            answer = self.check(frame, costs, [load_of(draw, frame, part) for part in parts], "cost")
            enough = [max(abs(part[k]) for part in parts) for k in range(len(costs))]
            self.assertLessEqual(value(answer[1]), sum(c * s for c, s in zip(costs, enough)))

    def test_the_same_load_twice(self):
        draw = drawing(265)
        for _ in range(60):
            frame = drawn_frame(draw, 5)
            costs = drawn_costs(draw, frame)
            load = load_of(draw, frame, drawn_tensions(draw, frame))
            once = self.check(frame, costs, [load], "cost")
            self.assertEqual(self.check(frame, costs, [load, load], "cost")[1], once[1])
            self.assertEqual(self.check(frame, costs, [load] * 3, "cost")[1], once[1])
            double = self.check(frame, costs, [load, times_load(load, 2)], "cost")
            self.assertEqual(value(double[1]), 2 * value(once[1]))

    def test_a_load_and_its_opposite(self):
        draw = drawing(266)
        for _ in range(60):
            frame = drawn_frame(draw, 5, ("bars", "both"))
            costs = drawn_costs(draw, frame)
            load = load_of(draw, frame, drawn_tensions(draw, frame))
            once = self.check(frame, costs, [load], "cost")
            self.assertEqual(self.check(frame, costs, [load, times_load(load, -1)], "cost")[1], once[1])
        for _ in range(60):
            frame = drawn_frame(draw, 5)
            load = drawn_load(draw, frame)
            self.check(frame, drawn_costs(draw, frame), [load, times_load(load, -1)])

    def test_loads_of_noughts(self):
        draw = drawing(267)
        for many in (1, 2, 3):
            for _ in range(20):
                frame = drawn_frame(draw)
                answer = self.check(frame, drawn_costs(draw, frame), [noughts(frame)] * many, "cost")
                self.assertEqual(answer[1], (0, 1))
                self.assertEqual(set(answer[2]), {(0, 1)} if frame[1] else set())

    def test_a_load_that_nothing_carries(self):
        draw = drawing(268)
        for _ in range(60):
            frame = drawn_frame(draw, 6)
            if len(frame[2]) == len(frame[0]):
                continue
            costs = drawn_costs(draw, frame)
            points, members, pins = frame
            # A joint more, which no member holds
            frame = (points + ((500, 500),), members, pins)
            bad = noughts(frame)[1:] + ((0, 3),)
            good = [load_of(draw, frame, drawn_tensions(draw, frame)) for _ in range(2)]
            good = [load[:-1] + ((0, 0),) for load in good]
            for k in range(3):
                answer = self.check(frame, costs, good[:k] + [bad] + good[k:], "never")
                self.assertEqual(answer[1], k)
            self.check(frame, costs, [bad], "never")
            self.check(frame, costs, [bad, bad, bad], "never")

    def test_limits_of_nought_on_both_sides(self):
        draw = drawing(269)
        for _ in range(60):
            points, members, pins = drawn_frame(draw, 5)
            frame = (points, tuple((i, j, 0, 0) for i, j, _, _ in members), pins)
            load = drawn_load(draw, frame, 3)
            loaded = any(load[k] != (0, 0) for k in range(len(points)) if k not in pins)
            self.check(frame, drawn_costs(draw, frame), [load], "never" if loaded else "cost")
            some = tuple(m[:2] + draw.choice(((0, 0), (None, None), m[2:])) for m in members)
            self.check((points, some, pins), drawn_costs(draw, frame), [load, noughts(frame)])

    def test_frames_without_members_or_joints(self):
        self.assertEqual(self.check(((), (), ()), (), [(), ()], "cost"), ("cost", (0, 1), (), [(), ()], [(), ()]))
        frame = (((1, 1), (1, 1)), (), (0,))
        self.check(frame, (), [((5, 5), (0, 0))], "cost")
        self.assertEqual(self.check(frame, (), [((5, 5), (0, 0)), ((0, 0), (1, 0))], "never")[1], 1)

    def test_all_joints_pinned(self):
        frame = (((0, 0), (1, 0)), ((0, 1, None, 0),), (0, 1))
        answer = self.check(frame, (4,), [((8, 9), (-7, 6))], "cost")
        self.assertEqual(answer[1], (0, 1))

    def test_costs_times_an_integer(self):
        draw = drawing(270)
        for _ in range(40):
            frame = drawn_frame(draw, 5)
            costs = drawn_costs(draw, frame)
            loads = [load_of(draw, frame, drawn_tensions(draw, frame)) for _ in range(2)]
            once = self.check(frame, costs, loads, "cost")
            more = self.check(frame, tuple(100 * c for c in costs), loads, "cost")
            self.assertEqual(value(more[1]), 100 * value(once[1]))


class Large(Checking):
    def test_greatest_counts(self):
        draw = drawing(271)
        for kind in KINDS:
            for pins in (0, 1, 3):
                frame = large_frame(draw, kind, pins, "far", 8, 14)
                costs = drawn_costs(draw, frame, 1000)
                parts = [drawn_tensions(draw, frame, 10 ** 8) for _ in range(3)]
                self.check(frame, costs, [load_of(draw, frame, part) for part in parts], "cost")
                self.check(frame, costs, [drawn_load(draw, frame, LARGE) for _ in range(3)])

    def test_symmetries(self):
        draw = drawing(272)
        points = ((5, 0), (0, 5), (-5, 0), (0, -5), (3, 4), (-4, 3), (-3, -4), (4, -3))
        for kind in KINDS:
            members = tuple((i, j) + draw.choice(KINDS[kind]) for i, j in (
                (0, 1), (1, 2), (2, 3), (0, 3), (4, 5), (5, 6), (6, 7), (4, 7), (0, 4), (1, 5), (2, 6), (3, 7), (0, 7),
                (1, 4),
            ))
            for pins in ((), (0,), (0, 2)):
                frame = (points, members, pins)
                loads = [load_of(draw, frame, drawn_tensions(draw, frame, 1)) for _ in range(3)]
                self.check(frame, (1,) * 14, loads, "cost")
                self.check(frame, (1,) * 14, [((1, 0),) * 8, ((0, 1),) * 8, noughts(frame)])

    def test_forces_of_any_size(self):
        draw = drawing(273)
        for sizes in ((LARGE ** 9,) * 3, (1, LARGE ** 9, LARGE ** 40)):
            frame = large_frame(draw, "ropes", 2, "far", 8, 14)
            loads = [load_of(draw, frame, drawn_tensions(draw, frame, size)) for size in sizes]
            self.check(frame, drawn_costs(draw, frame, 1000), loads, "cost")
            loads[1] = times_load(drawn_load(draw, frame, LARGE), LARGE ** 9)
            self.check(frame, drawn_costs(draw, frame, 1000), loads)


if __name__ == "__main__":
    unittest.main()
