"""Covers of nets (point 18)."""

from loadorloose.counting import Holder, chosen


def cover(net):
    """A cover of the net whose sum is the count rank.

    A set of m joints is *full* if 2 m - 3 of the chosen pairs have both joints in it. Each chosen pair is full by
    itself, two full sets with two joints in common are full together, and so are three of which each two have another
    joint in common. So the greatest full sets share no chosen pair, and together they have as many as their sum says.
    A pair that was not chosen has both of its joints in one of them.
    """
    n, _ = net
    pairs = chosen(net)
    bound = bound_joints(n, pairs)
    found = []
    for i, j in pairs:
        full = tuple([k for k in range(n) if bound[i][k] and bound[j][k]])
        if full not in found:
            found.append(full)
    return found


def bound_joints(n, pairs):
    """For each two joints whether one full set has both: independent pairs leave no room then for their pair."""
    holder = Holder(n)
    for pair in pairs:
        holder.take(pair[0], pair[1])
    return [[i == j or not holder.has_room(i, j) for j in range(n)] for i in range(n)]


def cover_sum(sets):
    """The sum of a list of tuples."""
    return sum([2 * len(joints) - 3 for joints in sets])


def is_cover(net, sets):
    """Whether a list of tuples of integers from 0 on is a cover of the net."""
    n, pairs = net
    if not all([can_cover(n, joints) for joints in sets]) or has_twice(sets):
        return False
    return all([any([i in joints and j in joints for joints in sets]) for i, j in pairs])


def can_cover(n, joints):
    """Whether these are at least two of n joints, each one greater than the one before."""
    if len(joints) < 2 or joints[-1] >= n:
        return False
    return all([k < after for k, after in zip(joints, joints[1:])])


def has_twice(sets):
    """Whether a tuple stands in the list twice."""
    return any([joints in sets[:at] for at, joints in enumerate(sets)])
