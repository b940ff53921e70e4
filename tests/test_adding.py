"""Point 20: spare pairs, and offers that make a net enough."""

import copy
import unittest
from collections import Counter
from itertools import combinations

from drawn_nets import all_pairs, by_steps, drawn_net, own_chosen, own_count_rank
from loadorloose.adding import fewest, spare
from loadorloose.counting import is_enough
from support import drawing


def without(pairs, pair):
    """The pairs but one."""
    return [other for other in pairs if other != pair]


class Spare(unittest.TestCase):
    def check(self, net, expected):
        """Check the spare pairs that are told."""
        kept = copy.deepcopy(net)
        found = spare(net)
        self.assertEqual(net, kept)
        self.assertIs(type(found), list)
        self.assertEqual(found, expected)
        return found

    def test_known(self):
        self.check((1, ()), [])
        self.check((2, ((0, 1),)), [])
        self.check((3, ((0, 1), (1, 2), (0, 2))), [])
        for pairs in (all_pairs(4), all_pairs(4)[::-1], all_pairs(5)):
            self.check((max(j for _, j in pairs) + 1, tuple(pairs)), pairs)
        self.check((5, tuple(all_pairs(4)) + ((1, 4), (0, 4))), all_pairs(4))
        self.check((4, tuple(all_pairs(4)[1:])), [])

    def test_by_all_sets_of_joints(self):
        draw = drawing(441)
        found = Counter()
        for _ in range(200):
            n = draw.randint(1, 6)
            _, pairs = drawn_net(draw, n, draw.choice((None, max(0, 2 * n - 3), 2 * n - 2)))
            rank = len(own_chosen(n, pairs))
            expected = [pair for pair in pairs if len(own_chosen(n, without(pairs, pair))) == rank]
            self.check((n, pairs), expected)
            found["none" if not expected else "all" if len(expected) == len(pairs) else "some"] += 1
        self.assertGreater(min(found[word] for word in ("none", "all", "some")), 15)

    def test_sixteen_joints(self):
        draw = drawing(442)
        self.check((16, ()), [])
        self.check((16, tuple(all_pairs(16))), all_pairs(16))
        for _ in range(3):
            pairs = by_steps(draw, 16, 0.5)
            self.check((16, tuple(pairs)), [])
            more = draw.sample(pairs + [pair for pair in all_pairs(16) if pair not in pairs][:2], len(pairs) + 2)
            ranks = [own_count_rank(draw, 16, without(more, pair)) for pair in more]
            self.check((16, tuple(more)), [pair for pair, rank in zip(more, ranks) if rank == 29])

    def test_answers_are_new(self):
        net = (4, tuple(all_pairs(4)))
        spare(net).append(None)
        self.assertEqual(spare(net), all_pairs(4))


class Fewest(unittest.TestCase):
    def rank_with(self, draw, net, offers):
        """The count rank of the net with the pairs of offers."""
        n, pairs = net
        return own_count_rank(draw, n, sorted({*pairs, *(offer[:2] for offer in offers)}))

    def is_enough_with(self, draw, net, offers):
        """Whether the net is enough with the pairs of offers."""
        return net[0] == 1 or self.rank_with(draw, net, offers) == 2 * net[0] - 3

    def check(self, net, offers, cost=None):
        """Check what is told of offers; if a cost is given, it is the least, -1 if they do not make the net enough."""
        draw = drawing(443)
        kept = copy.deepcopy((net, offers))
        found = fewest(net, offers)
        self.assertEqual((net, offers), kept)
        if found is None:
            self.assertFalse(self.is_enough_with(draw, net, offers))
        else:
            self.assertIs(type(found), list)
            self.assertTrue(all(type(k) is int for k in found))
            self.assertEqual(found, sorted(set(found)))
            self.assertTrue(set(found) <= set(range(len(offers))))
            self.assertTrue(self.is_enough_with(draw, net, [offers[k] for k in found]))
            for k in found:
                self.assertFalse(self.is_enough_with(draw, net, [offers[other] for other in found if other != k]))
        if cost is not None:
            self.assertEqual(-1 if found is None else sum(offers[k][2] for k in found), cost, (net, offers))
        return found

    def least(self, draw, net, offers):
        """The least cost of all sets of offers that make the net enough, -1 if there is none."""
        costs = []
        for count in range(len(offers) + 1):
            for some in combinations(offers, count):
                if self.is_enough_with(draw, net, some):
                    costs.append(sum(cost for _, _, cost in some))
        return min(costs, default=-1)

    def test_enough_as_it_is(self):
        self.assertEqual(self.check((1, ()), []), [])
        self.assertEqual(self.check((2, ((0, 1),)), [(0, 1, 0)]), [])
        self.assertEqual(self.check((3, tuple(all_pairs(3))), [(0, 1, 0), (1, 2, 5), (0, 1, 0)]), [])
        self.assertEqual(self.check((4, tuple(all_pairs(4)[1:])), [(0, 1, 0)]), [])

    def test_known(self):
        square = (4, ((0, 1), (1, 2), (2, 3), (0, 3)))
        self.assertEqual(self.check(square, [(0, 2, 5), (1, 3, 4)], 4), [1])
        self.assertEqual(self.check(square, [(0, 2, 3), (1, 3, 4)], 3), [0])
        self.assertEqual(self.check(square, [(0, 1, 0), (1, 3, 4), (1, 3, 2), (0, 1, 1)], 2), [2])
        self.assertIsNone(self.check(square, [(0, 1, 0), (1, 2, 0)], -1))
        self.assertIsNone(self.check(square, [], -1))
        self.assertIsNone(self.check((2, ()), [], -1))
        self.assertEqual(self.check((2, ()), [(0, 1, 7), (0, 1, 6), (0, 1, 8)], 6), [1])
        self.assertEqual(self.check((3, ()), [(0, 1, 1), (1, 2, 1), (0, 2, 1)], 3), [0, 1, 2])

    def test_offers_of_no_cost(self):
        found = self.check((4, ()), [pair + (0,) for pair in all_pairs(4)], 0)
        self.assertEqual(len(found), 5)
        self.assertEqual(len(self.check((2, ()), [(0, 1, 0), (0, 1, 0)], 0)), 1)

    def test_dear_offers_that_must_be_taken(self):
        # Many cheap offers lie among four joints; the other joint needs two of its own.
        offers = [pair + (1,) for pair in all_pairs(4)] + [(0, 4, 1000), (1, 4, 900), (2, 4, 800)]
        self.assertEqual(len(self.check((5, ()), offers, 5 + 1700)), 7)
        self.assertIsNone(self.check((5, ()), offers[:7], -1))

    def test_all_sets_of_offers(self):
        draw = drawing(444)
        found = Counter()
        for _ in range(400):
            n = draw.randint(1, 5)
            net = drawn_net(draw, n, max(0, 2 * n - 3 - draw.randint(-1, 3)))
            size = draw.choice((0, 1, 3, 1000))
            many = draw.randint(0, 6) if n > 1 else 0
            offers = [draw.choice(all_pairs(n)) + (draw.randint(0, size),) for _ in range(many)]
            told = self.check(net, offers, self.least(draw, net, offers))
            found["none" if told is None else len(told)] += 1
        self.assertGreater(min(found[k] for k in ("none", 0, 1, 2, 3)), 8)

    def test_sixteen_joints_with_forty_offers(self):
        draw = drawing(445)
        found = Counter()
        for _ in range(20):
            pairs = by_steps(draw, 16, 0.5)
            out = draw.randint(0, 29)
            offers = [pair + (draw.randint(0, 1000),) for pair in pairs[:out]]
            while len(offers) < 40:
                offers.append(draw.choice(all_pairs(16)) + (draw.choice((0, draw.randint(0, 1000))),))
            draw.shuffle(offers)
            net = (16, tuple(pairs[out:]))
            told = self.check(net, offers)
            self.assertEqual(len(told), out)
            self.assertLessEqual(
                sum(offers[k][2] for k in told), sum(min(o[2] for o in offers if o[:2] == p) for p in pairs[:out])
            )
            # With one offer less of those that are told, the others cost no less, or are not enough.
            for k in told[:3]:
                fewer = offers[:k] + offers[k + 1:]
                again = self.check(net, fewer)
                if again is not None:
                    self.assertGreaterEqual(sum(fewer[h][2] for h in again), sum(offers[h][2] for h in told))
                found[again is None] += 1
            self.assertEqual(is_enough(net), told == [])
        self.assertGreater(min(found.values()), 3)
        self.assertIsNone(self.check((16, ()), [(i, j, 0) for i, j in all_pairs(9)] + [(9, 10, 0)] * 4))

    def test_answers_are_new(self):
        net, offers = (2, ()), [(0, 1, 3)]
        fewest(net, offers).append(None)
        self.assertEqual(fewest(net, offers), [0])


if __name__ == "__main__":
    unittest.main()
