"""Point 16: independent pairs, the count rank, and nets that are enough."""

import copy
import unittest
from collections import Counter

from drawn_nets import all_pairs, by_steps, drawn_net, of_threes, own_chosen, own_independent
from loadorloose.counting import are_independent, chosen, count_rank, is_enough
from support import drawing


class Checking(unittest.TestCase):
    def check(self, net, taken=None):
        """Check all that is told of a net; taken are the pairs that are to be chosen, if the net is too large."""
        n, pairs = net
        kept = copy.deepcopy(net)
        found = chosen(net)
        self.assertIs(type(found), list)
        self.assertEqual(found, own_chosen(n, pairs) if taken is None else taken)
        rank = count_rank(net)
        self.assertIs(type(rank), int)
        self.assertEqual(rank, len(found))
        self.assertIs(is_enough(net), n == 1 or rank == 2 * n - 3)
        self.assertIs(are_independent(n, pairs), rank == len(pairs))
        self.assertIs(are_independent(n, list(pairs)), rank == len(pairs))
        self.assertEqual(net, kept)
        return rank


class Counting(Checking):
    def test_one_joint(self):
        self.assertEqual(self.check((1, ())), 0)
        self.assertIs(is_enough((1, ())), True)

    def test_two_joints(self):
        self.assertEqual(self.check((2, ())), 0)
        self.assertIs(is_enough((2, ())), False)
        self.assertEqual(self.check((2, ((0, 1),))), 1)
        self.assertIs(is_enough((2, ((0, 1),))), True)

    def test_no_pairs(self):
        for n in range(1, 17):
            self.assertEqual(self.check((n, ()), []), 0)

    def test_three_and_four_joints(self):
        self.assertEqual(self.check((3, ((0, 1), (1, 2)))), 2)
        self.assertIs(is_enough((3, ((0, 1), (1, 2)))), False)
        self.assertEqual(self.check((3, ((0, 1), (1, 2), (0, 2)))), 3)
        self.assertIs(is_enough((3, ((0, 1), (1, 2), (0, 2)))), True)
        self.assertEqual(self.check((4, tuple(all_pairs(4)))), 5)
        self.assertIs(are_independent(4, all_pairs(4)), False)
        self.assertEqual(chosen((4, tuple(all_pairs(4)))), all_pairs(4)[:5])

    def test_pairs_that_are_not_spread_enough(self):
        # Seven pairs for five joints, but six of them among four joints
        net = (5, tuple(all_pairs(4)) + ((0, 4),))
        self.assertEqual(len(net[1]), 2 * 5 - 3)
        self.assertEqual(self.check(net), 6)
        self.assertIs(is_enough(net), False)
        self.assertIs(are_independent(*net), False)
        # Two such parts that hang together by one joint
        net = (6, ((0, 1), (0, 2), (1, 2), (0, 3), (1, 3), (3, 4), (3, 5), (4, 5), (2, 3)))
        self.assertIs(is_enough(net), False)

    def test_pairs_of_sets_of_three(self):
        net = (6, tuple((i, j) for i in (0, 1, 2) for j in (3, 4, 5)))
        self.assertEqual(self.check(net), 9)
        self.assertIs(is_enough(net), True)

    def test_drawn(self):
        draw = drawing(301)
        found = Counter()
        for _ in range(500):
            net = drawn_net(draw, draw.randint(1, 6))
            self.assertIs(are_independent(*net), own_independent(*net))
            self.check(net)
            found[is_enough(net), are_independent(*net)] += 1
        self.assertEqual(len(found), 4)
        self.assertGreater(found[True, False], 20)
        self.assertGreater(found[False, True], 20)

    def test_about_as_many_pairs_as_are_needed(self):
        draw = drawing(302)
        found = Counter()
        for _ in range(120):
            n = draw.randint(4, 7)
            net = drawn_net(draw, n, 2 * n - 3 + draw.choice((-1, 0, 0, 0, 1)))
            self.check(net)
            found[is_enough(net), are_independent(*net)] += 1
        self.assertEqual(len(found), 4)

    def test_orders_of_the_same_pairs(self):
        draw = drawing(303)
        for _ in range(60):
            n, pairs = drawn_net(draw, draw.randint(3, 6))
            ranks = {self.check((n, tuple(draw.sample(pairs, len(pairs))))) for _ in range(4)}
            self.assertEqual(len(ranks), 1)

    def test_answers_are_new(self):
        net = (3, ((0, 1), (0, 2)))
        chosen(net).append(None)
        self.assertEqual(chosen(net), [(0, 1), (0, 2)])


class Large(Checking):
    def test_all_pairs(self):
        draw = drawing(304)
        pairs = all_pairs(16)
        for n in (9, 16):
            self.assertEqual(count_rank((n, tuple(all_pairs(n)))), 2 * n - 3)
        # In this order each joint keeps its pairs with the first two.
        self.check((16, tuple(pairs)), [(i, j) for i, j in pairs if i < 2])
        for _ in range(20):
            net = (16, tuple(draw.sample(pairs, 120)))
            self.assertEqual(count_rank(net), 29)
            self.assertIs(is_enough(net), True)

    def test_built_nets(self):
        draw = drawing(305)
        for share in (0, 0.5, 1):
            for _ in range(20):
                pairs = by_steps(draw, 16, share)
                self.check((16, tuple(pairs)), pairs)
                others = [pair for pair in all_pairs(16) if pair not in pairs]
                more = pairs + draw.sample(others, draw.randint(1, 40))
                self.check((16, tuple(more)), pairs)
                # Without one of the pairs they are not enough.
                self.check((16, tuple(pairs[1:])), pairs[1:])
                self.assertIs(is_enough((16, tuple(pairs[1:]))), False)

    def test_each_joint_with_three_pairs(self):
        draw = drawing(306)
        for _ in range(20):
            pairs = of_threes(draw, 16)
            self.check((16, tuple(pairs)), pairs)

    def test_two_parts(self):
        # Each part is enough by itself; together they turn about the joint that they share.
        draw = drawing(307)
        first = by_steps(draw, 8, 0.5)
        second = [(i + 7, j + 7) for i, j in by_steps(draw, 9, 0.5)]
        self.check((16, tuple(first + second)), first + second)
        self.assertEqual(count_rank((16, tuple(all_pairs(8) + [(i + 7, j + 7) for i, j in all_pairs(9)]))), 28)


if __name__ == "__main__":
    unittest.main()
