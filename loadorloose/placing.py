"""Places for the joints of nets, and the rank of the growths there (point 19)."""

from itertools import combinations

from loadorloose.building import after, building
from loadorloose.growths import growth_row
from loadorloose.rows import rank


def growth_rank(points, pairs):
    """The rank of the rows of the growths of the pairs, for joints at these places."""
    return rank([growth_row(points, i, j) for i, j in pairs])


def placed(net):
    """A tuple of different points, one for each joint, for which the rank of the growths is the count rank."""
    n, pairs = net
    places = {0: (0, 0)}
    joints = []
    there = []
    for step in steps_to_enough(n, pairs):
        joints, there = after(joints, there, step)
        if step[0] == "pair":
            places = {step[1]: (0, 0), step[2]: (1, 0)}
        else:
            places[step[1]] = fit_place(n, places, there, step[1])
    return tuple([places[joint] for joint in range(n)])


def steps_to_enough(n, pairs):
    """The steps to a net that is enough, whose pairs are as many as can be chosen from these, and others."""
    if n == 1:
        return []
    others = [pair for pair in combinations(range(n), 2) if pair not in pairs]
    return building((n, list(pairs) + others))


def fit_place(n, places, there, joint):
    """A place for a joint, the last one of those that are there, for which the pairs that are there have full rank.

    The pairs before the step have it. So has the step at nearly all places: if it takes away a pair, this sets a motion
    free in which the distance of two joints changes, and the new joint can follow these and the third one at but few
    places. The rank is full where one of some determinants is not nought, which are sums of products of the coordinates
    of the joint, of three of them at most, as no more rows have the joint. One of these that is not nought everywhere
    is so at no more than 3 m of m times m places. For m = n + 4 more places are left than there are other joints.
    """
    points = [places.get(k, (0, 0)) for k in range(n)]
    taken = list(places.values())
    for x in range(n + 4):
        for y in range(n + 4):
            points[joint] = (x, y)
            if (x, y) not in taken and growth_rank(points, there) == len(there):
                return x, y
    return None
