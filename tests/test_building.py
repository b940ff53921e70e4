"""Point 17: buildings of nets."""

import copy
import unittest
from collections import Counter

from drawn_nets import all_pairs, by_steps, drawn_net, of_threes, own_building
from loadorloose.building import building, is_building
from loadorloose.counting import count_rank
from support import drawing


class Checking(unittest.TestCase):
    def check(self, net, expected=None):
        """Check the building of a net; expected tells whether it must have one."""
        kept = copy.deepcopy(net)
        steps = building(net)
        self.assertEqual(net, kept)
        self.assertIs(steps is not None, count_rank(net) == 2 * net[0] - 3)
        if expected is not None:
            self.assertIs(steps is not None, expected)
        if steps is not None:
            self.assertIs(type(steps), list)
            self.assertEqual(len(steps), net[0] - 1)
            for step in steps:
                self.assertIs(type(step), tuple)
                self.assertTrue(all(type(k) is int for k in step[1:]))
            self.assertTrue(own_building(net, steps))
            self.judge(net, steps)
        return steps

    def judge(self, net, steps):
        """Check what `is_building` tells of steps; return it."""
        kept = copy.deepcopy((net, steps))
        found = is_building(net, steps)
        self.assertIs(found, own_building(net, steps), (net, steps))
        self.assertEqual((net, steps), kept)
        return found


class Building(Checking):
    def test_two_joints(self):
        self.assertEqual(self.check((2, ((0, 1),))), [("pair", 0, 1)])
        self.assertIsNone(self.check((2, ())))

    def test_three_joints(self):
        self.check((3, ((0, 1), (0, 2), (1, 2))), True)
        for pairs in ((), ((0, 1),), ((0, 1), (0, 2)), ((1, 2), (0, 2))):
            self.check((3, pairs), False)

    def test_drawn(self):
        draw = drawing(321)
        found = Counter()
        for _ in range(600):
            n = draw.randint(2, 9)
            net = drawn_net(draw, n, max(0, 2 * n - 3 + draw.choice((-1, 0, 0, 1, 2, 4))))
            found[self.check(net) is not None] += 1
        self.assertGreater(min(found.values()), 100)

    def test_drawn_nets_that_have_a_building(self):
        draw = drawing(322)
        for _ in range(200):
            n = draw.randint(2, 9)
            pairs = by_steps(draw, n, draw.choice((0, 0.5, 1)))
            others = [pair for pair in all_pairs(n) if pair not in pairs]
            self.check((n, tuple(pairs)), True)
            self.check((n, tuple(pairs + draw.sample(others, draw.randint(0, len(others))))), True)
            self.check((n, tuple(pairs[1:])), False)

    def test_each_joint_with_three_pairs(self):
        draw = drawing(323)
        for n in range(6, 17):
            for _ in range(5):
                pairs = tuple(of_threes(draw, n))
                ends = Counter(end for pair in pairs for end in pair)
                self.assertGreaterEqual(min(ends.values()), 3)
                steps = self.check((n, pairs), True)
                self.assertEqual(steps[-1][0], "three")

    def test_sixteen_joints(self):
        draw = drawing(324)
        pairs = all_pairs(16)
        self.check((16, tuple(pairs)), True)
        for share in (0, 0.5, 1):
            for _ in range(10):
                self.check((16, tuple(by_steps(draw, 16, share))), True)
        for _ in range(20):
            self.check((16, tuple(draw.sample(pairs, draw.randint(25, 60)))))

    def test_answers_are_new(self):
        net = (3, ((0, 1), (0, 2), (1, 2)))
        building(net).append(None)
        self.assertEqual(len(building(net)), 2)


class Judging(Checking):
    def test_known(self):
        square = (4, ((0, 1), (0, 2), (0, 3), (1, 2), (2, 3)))
        good = [("pair", 0, 1), ("two", 2, 0, 1), ("two", 3, 0, 2)]
        self.assertIs(self.judge(square, good), True)
        # A pair that is taken away later need not be one of the net.
        other = [("pair", 1, 3), ("two", 0, 1, 3), ("three", 2, 1, 3, 0)]
        self.assertIs(self.judge(square, other), True)
        for bad in (
            [], good[:2], good[1:], good + [("two", 4, 0, 1)], good[:1] + good, [good[0], good[2], good[1]],
            [("pair", 1, 0), good[1], good[2]], [good[0], ("two", 2, 1, 0), good[2]], [("pair", 0, 0)],
            [good[0], ("two", 2, 0, 0), good[2]], [good[0], good[1], ("two", 3, 0, 3)],
            [good[0], good[1], ("two", 3, 1, 2)], [good[0], good[1], ("three", 3, 0, 2, 1)],
            [good[0], good[1], ("three", 3, 0, 1, 2)], [good[0], good[1], ("three", 3, 0, 2, 2)],
            [other[0], other[1], ("three", 2, 1, 3, 1)], [other[0], other[1], ("three", 2, 1, 3, 3)],
            [other[0], other[1], ("three", 2, 1, 3, 2)], [other[0], other[1], ("three", 2, 3, 1, 0)],
            [good[0], good[1], ("four", 3, 0, 2)], [good[0], good[1], ("pair", 0, 3)], [("two", 2, 0, 1)],
            [("three", 3, 0, 1, 2)], [good[0], ("pair", 0, 2), good[1], good[2]],
        ):
            self.assertIs(self.judge(square, bad), False)

    def test_a_pair_that_must_be_there(self):
        # Both joints are there, but their pair is not.
        pairs = ((0, 1), (0, 2), (1, 2), (1, 3), (2, 3), (0, 4), (3, 4), (1, 4))
        steps = [("pair", 0, 1), ("two", 2, 0, 1), ("two", 3, 1, 2), ("three", 4, 0, 3, 1)]
        self.assertIs(self.judge((5, pairs), steps), False)
        # Here it was there, but was taken away before.
        steps = [("pair", 0, 1), ("two", 2, 0, 1), ("three", 3, 0, 1, 2), ("three", 4, 0, 1, 2)]
        self.assertIs(self.judge((5, tuple(all_pairs(5))), steps), False)
        steps = [("pair", 0, 1), ("two", 2, 0, 1), ("three", 3, 0, 1, 2), ("three", 4, 0, 3, 2)]
        self.assertIs(self.judge((5, tuple(all_pairs(5))), steps), True)

    def test_joints_that_the_net_does_not_have(self):
        net = (3, ((0, 1), (0, 2), (1, 2)))
        for steps in (
            [("pair", 0, 1), ("two", 3, 0, 1)], [("pair", 0, 3), ("two", 2, 0, 3)],
            [("pair", 0, 1), ("two", 2, 0, 1), ("two", 3, 0, 1)], [("pair", 0, 7), ("two", 1, 0, 7), ("two", 2, 0, 1)],
            [("pair", 0, 1), ("two", 10 ** 12, 0, 1)],
        ):
            self.assertIs(self.judge(net, steps), False)
        self.assertIs(self.judge((2, ((0, 1),)), [("pair", 2, 3)]), False)

    def test_pairs_that_the_net_does_not_have(self):
        steps = [("pair", 0, 1), ("two", 2, 0, 1)]
        self.assertIs(self.judge((3, ((0, 1), (0, 2), (1, 2))), steps), True)
        for pairs in (((0, 1), (0, 2)), ((0, 1), (1, 2)), ((0, 2), (1, 2)), ()):
            self.assertIs(self.judge((3, pairs), steps), False)

    def test_spoiled(self):
        draw = drawing(325)
        found = Counter()
        for _ in range(3000):
            n = draw.randint(2, 6)
            pairs = by_steps(draw, n, 0.5)
            others = [pair for pair in all_pairs(n) if pair not in pairs]
            net = (n, tuple(pairs + draw.sample(others, draw.randint(0, len(others)))))
            found[self.judge(net, spoiled(draw, building(net)))] += 1
        self.assertGreater(found[True], 100)
        self.assertGreater(found[False], 1000)

    def test_drawn_steps(self):
        draw = drawing(326)
        found = Counter()
        for _ in range(6000):
            n = draw.choice((2, 3, 3, 4))
            steps = [("pair",) + draw.choice(all_pairs(n))]
            for _ in range(n - 2):
                word, count = draw.choice((("two", 3), ("two", 3), ("three", 4)))
                steps.append((word,) + tuple(draw.sample(range(n), min(n, count))) + (0,) * max(0, count - n))
            found[self.judge((n, tuple(all_pairs(n))), steps)] += 1
        self.assertGreater(min(found.values()), 300)

    def test_forty_steps(self):
        net = (16, tuple(all_pairs(16)))
        steps = building(net)
        self.assertIs(self.judge(net, steps + [("two", k, 0, 1) for k in range(16, 41)]), False)
        self.assertIs(self.judge(net, steps * 2), False)


def spoiled(draw, steps):
    """The steps with one of them left out, doubled, exchanged, or changed."""
    steps = list(steps)
    at = draw.randrange(len(steps))
    other = draw.randrange(len(steps))
    kind = draw.choice(("out", "double", "exchange", "joints", "joint", "word"))
    if kind == "out":
        del steps[at]
    elif kind == "double":
        steps.insert(other, steps[at])
    elif kind == "exchange":
        steps[at], steps[other] = steps[other], steps[at]
    else:
        word, *numbers = steps[at]
        if kind == "joints":
            draw.shuffle(numbers)
        elif kind == "joint":
            numbers[draw.randrange(len(numbers))] = draw.randint(0, len(steps) + 1)
        else:
            word = draw.choice(("pair", "two", "three", "four"))
        steps[at] = (word, *numbers)
    return steps


if __name__ == "__main__":
    unittest.main()
