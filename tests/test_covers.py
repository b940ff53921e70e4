"""Point 18: covers of nets."""

import copy
import unittest
from collections import Counter

from drawn_nets import all_pairs, by_steps, drawn_net, of_threes, own_chosen, own_count_rank
from loadorloose.counting import count_rank, is_enough
from loadorloose.covers import cover, cover_sum, is_cover
from support import drawing


def own_sum(sets):
    """The sum of tuples by the words of point 18."""
    return sum(2 * len(joints) - 3 for joints in sets)


def own_cover(net, sets):
    """Whether tuples are a cover by the words of point 18."""
    n, pairs = net
    for joints in sets:
        if len(joints) < 2 or list(joints) != sorted(set(joints)) or not set(joints) <= set(range(n)):
            return False
    if len(set(sets)) < len(sets):
        return False
    return all(any({i, j} <= set(joints) for joints in sets) for i, j in pairs)


class Checking(unittest.TestCase):
    def check(self, net, rank=None):
        """Check the cover that is told of a net, whose count rank may be given."""
        kept = copy.deepcopy(net)
        sets = cover(net)
        self.assertEqual(net, kept)
        self.assertIs(type(sets), list)
        for joints in sets:
            self.assertIs(type(joints), tuple)
            self.assertTrue(all(type(k) is int for k in joints))
        self.assertTrue(own_cover(net, sets), (net, sets))
        self.assertEqual(own_sum(sets), count_rank(net) if rank is None else rank, (net, sets))
        self.assertEqual(cover_sum(sets), own_sum(sets))
        self.assertIs(self.judge(net, sets), True)
        return sets

    def judge(self, net, sets):
        """Check what `is_cover` tells; return it."""
        kept = copy.deepcopy((net, sets))
        found = is_cover(net, sets)
        self.assertIs(found, own_cover(net, sets), (net, sets))
        self.assertEqual((net, sets), kept)
        return found


class Covers(Checking):
    def test_one_joint(self):
        self.assertEqual(self.check((1, ()), 0), [])

    def test_no_pairs(self):
        for n in range(1, 17):
            self.assertEqual(self.check((n, ()), 0), [])

    def test_known(self):
        self.assertEqual(self.check((2, ((0, 1),)), 1), [(0, 1)])
        self.assertEqual(sorted(self.check((3, ((0, 1), (1, 2))), 2)), [(0, 1), (1, 2)])
        self.assertEqual(self.check((3, ((0, 1), (1, 2), (0, 2))), 3)[0][:1], (0,))
        # All pairs of four joints, and two parts that hang together by one joint
        self.assertEqual(self.check((4, tuple(all_pairs(4))), 5), [(0, 1, 2, 3)])
        two = tuple(all_pairs(4)) + tuple((i + 3, j + 3) for i, j in all_pairs(4))
        self.assertEqual(sorted(self.check((7, two), 10)), [(0, 1, 2, 3), (3, 4, 5, 6)])
        self.assertFalse(is_enough((7, two)))

    def test_more_pairs_than_can_be_chosen_in_one_part(self):
        # Seven pairs for five joints, six of them among four
        net = (5, tuple(all_pairs(4)) + ((0, 4),))
        self.assertEqual(sorted(self.check(net, 6)), [(0, 1, 2, 3), (0, 4)])

    def test_a_cover_tells_what_is_enough(self):
        draw = drawing(401)
        found = Counter()
        for _ in range(200):
            n = draw.randint(2, 8)
            net = drawn_net(draw, n, max(0, 2 * n - 3 + draw.choice((-2, -1, 0, 1, 3, 6))))
            enough = own_count_rank(draw, *net) == 2 * n - 3
            self.assertIs(cover_sum(self.check(net)) >= 2 * n - 3, enough)
            found[enough] += 1
        self.assertGreater(min(found.values()), 30)

    def test_small_by_all_sets(self):
        draw = drawing(402)
        for _ in range(150):
            net = drawn_net(draw, draw.randint(1, 5))
            self.check(net, len(own_chosen(*net)))

    def test_drawn_in_several_orders(self):
        draw = drawing(403)
        lengths = Counter()
        for _ in range(150):
            n = draw.randint(2, 9)
            _, pairs = drawn_net(draw, n, draw.choice((n, 2 * n - 4, 2 * n - 3, 2 * n, draw.randint(0, 36))))
            rank = own_count_rank(draw, n, pairs)
            for _ in range(4):
                sets = self.check((n, tuple(draw.sample(pairs, len(pairs)))), rank)
                lengths[max([len(joints) for joints in sets], default=0)] += 1
        self.assertGreater(len(lengths), 6)

    def test_parts_that_share_joints(self):
        draw = drawing(404)
        for _ in range(100):
            n, pairs = 9, []
            for _ in range(draw.randint(2, 5)):
                joints = sorted(draw.sample(range(n), draw.randint(2, 5)))
                pairs += [(joints[i], joints[j]) for i, j in by_steps(draw, len(joints), 0.5)]
            pairs = draw.sample(sorted(set(pairs)), len(set(pairs)))
            self.check((n, tuple(pairs)), own_count_rank(draw, n, pairs))

    def test_three_parts_in_a_ring(self):
        # Three triangles, each two of which share another joint, are one part together.
        pairs = ((0, 1), (0, 3), (1, 3), (1, 2), (1, 4), (2, 4), (0, 2), (0, 5), (2, 5))
        self.assertEqual(self.check((6, pairs), 9), [(0, 1, 2, 3, 4, 5)])

    def test_sixteen_joints(self):
        draw = drawing(405)
        self.assertEqual(self.check((16, tuple(all_pairs(16))), 29), [tuple(range(16))])
        self.assertEqual(self.check((16, tuple(of_threes(draw, 16))), 29), [tuple(range(16))])
        for count in (20, 28, 29, 30, 40, 100):
            for _ in range(3):
                net = drawn_net(draw, 16, count)
                self.check(net, own_count_rank(draw, *net))

    def test_answers_are_new(self):
        net = (3, ((0, 1), (1, 2)))
        cover(net).append(None)
        self.assertEqual(len(cover(net)), 2)


class Sums(unittest.TestCase):
    def test_known(self):
        self.assertEqual(cover_sum([]), 0)
        self.assertEqual(cover_sum([(0, 1)]), 1)
        self.assertEqual(cover_sum([(0, 1, 2)]), 3)
        self.assertEqual(cover_sum([(0, 1), (1, 2, 5), (0, 2, 3, 4)]), 9)

    def test_drawn(self):
        draw = drawing(406)
        for _ in range(200):
            sets = [tuple(sorted(draw.sample(range(16), draw.randint(2, 16)))) for _ in range(draw.randint(0, 60))]
            kept = list(sets)
            total = cover_sum(sets)
            self.assertIs(type(total), int)
            self.assertEqual(total, own_sum(sets))
            self.assertEqual(sets, kept)


def spoiled(draw, n, sets):
    """The tuples with one of them left out, doubled, turned about, or with a joint more, less, twice or not there."""
    sets = list(sets)
    at = draw.randrange(len(sets))
    joints = sets[at]
    kind = draw.choice(("out", "double", "turned", "more", "less", "twice", "beyond", "one", "none", "other"))
    if kind == "out":
        del sets[at]
    elif kind == "double":
        sets.insert(draw.randrange(len(sets) + 1), joints)
    elif kind == "turned":
        sets[at] = joints[::-1]
    elif kind == "more":
        sets[at] = tuple(sorted(set(joints) | {draw.randrange(n)}))
    elif kind == "less":
        out = draw.randrange(len(joints))
        sets[at] = joints[:out] + joints[out + 1:]
    elif kind == "twice":
        sets[at] = tuple(sorted(joints + (draw.choice(joints),)))
    elif kind == "beyond":
        sets[at] = joints + (draw.choice((n, n + 1, 10 ** 12)),)
    else:
        some = {"one": (draw.randrange(n),), "none": (), "other": tuple(draw.sample(range(n), 2))}[kind]
        sets.insert(draw.randrange(len(sets) + 1), some)
    return kind, sets


class Judging(Checking):
    def test_known(self):
        net = (4, ((0, 1), (1, 2), (0, 2)))
        for sets, expected in (
            ([(0, 1, 2)], True), ([(0, 1), (1, 2), (0, 2)], True), ([(0, 1, 2, 3)], True), ([(0, 1), (0, 2)], False),
            ([(0, 1, 2), (0, 1)], True), ([(0, 1, 2), (2, 3)], True), ([(0, 1, 2), (0, 1, 2)], False), ([], False),
            ([(0, 2, 1)], False), ([(0, 1, 1, 2)], False), ([(0, 1, 2, 4)], False), ([(0, 1, 2), (4, 5)], False),
            ([(0, 1, 2), (3,)], False), ([(0, 1, 2), ()], False), ([(0, 1), (1, 2, 3), (0, 2, 3)], True),
            ([(0, 1, 2), (3, 3)], False), ([(0, 1, 2), (2, 3), (2, 3)], False), ([(0, 1, 2), (3, 2)], False),
            ([(2, 1, 0)], False), ([(0, 1, 2, 10 ** 12)], False), ([(0, 1, 2), (10 ** 12, 10 ** 12 + 1)], False),
        ):
            self.assertIs(self.judge(net, sets), expected, sets)

    def test_no_pairs(self):
        self.assertIs(self.judge((1, ()), []), True)
        self.assertIs(self.judge((1, ()), [(0, 1)]), False)
        self.assertIs(self.judge((1, ()), [(0,)]), False)
        self.assertIs(self.judge((1, ()), [()]), False)
        self.assertIs(self.judge((3, ()), []), True)
        self.assertIs(self.judge((3, ()), [(0, 2)]), True)
        self.assertIs(self.judge((3, ()), [(0, 3)]), False)

    def test_spoiled(self):
        draw = drawing(407)
        found = Counter()
        for _ in range(2500):
            n = draw.randint(2, 7)
            net = drawn_net(draw, n, draw.randint(1, 2 * n))
            kind, sets = spoiled(draw, n, cover(net))
            found[kind, self.judge(net, sets)] += 1
        for kind in ("out", "double", "turned", "less", "twice", "beyond", "one", "none"):
            self.assertGreater(found[kind, False], 50)
            self.assertEqual(found[kind, True], 0, kind)
        for kind in ("more", "other"):
            self.assertGreater(found[kind, True], 50)

    def test_drawn(self):
        draw = drawing(408)
        found = Counter()
        for _ in range(3000):
            n = draw.randint(1, 5)
            sets = []
            for _ in range(draw.randint(0, 6)):
                joints = [draw.randint(0, n) if draw.random() < 0.05 else draw.randrange(n) for _ in range(3)]
                sets.append(tuple(sorted(set(joints)) if draw.random() < 0.95 else joints))
            found[self.judge(drawn_net(draw, n, draw.randint(0, 4)), sets)] += 1
        self.assertGreater(min(found.values()), 200)

    def test_sixty_tuples(self):
        pairs = all_pairs(16)
        net = (16, tuple(pairs[:60]))
        self.assertIs(self.judge(net, pairs[:60]), True)
        self.assertIs(self.judge(net, pairs[1:60]), False)
        self.assertIs(self.judge(net, pairs[:60] + [pairs[7]]), False)


if __name__ == "__main__":
    unittest.main()
