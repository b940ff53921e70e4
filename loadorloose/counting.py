"""Counting: how many of a net's pairs are independent (point 16)."""

from loadorloose.reaching import reached


class Holder:
    """Holds independent pairs: it takes each one that is independent together with those that it has taken.

    Each joint has two pebbles. A pair that was taken keeps one of one of its joints, its tail; its other joint is its
    head. A joint that lacks a pebble may get one from the head of a pair of which it is the tail: they change places.
    So pebbles may come from far. A pair is taken if four pebbles can be brought to its joints. If then k of the pairs
    held before have both joints in a set of m joints with these two, they keep k pebbles of the 2 m of the set, and
    four are free; so k + 4 is at most 2 m, and with the new pair there are at most 2 m - 3.
    """

    def __init__(self, n):
        self.pebbles = [2] * n
        self.heads = [[] for _ in range(n)]

    def take(self, i, j):
        """Take the pair of two joints if it is independent; whether it was taken."""
        if not self.has_room(i, j):
            return False
        self.pebbles[i] -= 1
        self.heads[i].append(j)
        return True

    def has_room(self, i, j):
        """Whether the pair of two joints is independent, together with those taken; four pebbles are then there."""
        while self.pebbles[i] + self.pebbles[j] < 4:
            if not self.bring(i, j) and not self.bring(j, i):
                return False
        return True

    def bring(self, joint, other):
        """Bring a pebble to a joint that lacks one, from any joint but the other one; whether there is one.

        A joint that lacks none is no tail, so that there is none for it.
        """
        before = reached(self.heads, joint)
        givers = [place for place in before if place not in (joint, other) and self.pebbles[place] > 0]
        if not givers:
            return False
        self.pass_on(givers[0], before)
        return True

    def pass_on(self, joint, before):
        """Pass a pebble of a joint to the joint before it, and so on until there is none before."""
        self.pebbles[joint] -= 1
        while before[joint] is not None:
            tail = before[joint]
            self.heads[tail].remove(joint)
            self.heads[joint].append(tail)
            joint = tail
        self.pebbles[joint] += 1


def are_independent(n, pairs):
    """Whether different pairs of n joints are independent."""
    return len(chosen((n, pairs))) == len(pairs)


def chosen(net):
    """The list of the pairs that are independent together with those chosen before them."""
    n, pairs = net
    holder = Holder(n)
    found = []
    for pair in pairs:
        if holder.take(pair[0], pair[1]):
            found.append(pair)
    return found


def count_rank(net):
    """The greatest count of independent pairs of the net."""
    return len(chosen(net))


def is_enough(net):
    """Whether the net has one joint, or as many independent pairs as its joints can have."""
    n, _ = net
    return n == 1 or count_rank(net) == 2 * n - 3
