"""Folded surfaces over plane nets, and the balanced tensions that belong to them (points 25 and 26)."""

from loadorloose.faces import outer_of, ring_steps, rounds, side
from loadorloose.holding import is_proper
from loadorloose.numbers import dotted, minus, over

NOUGHT = (0, 1)
LEVEL = ((0, 1), (0, 1))


def surface(points, pairs, tensions):
    """The tuple of the heights, integers, that belong to balanced tensions, or None for others."""
    if not is_balanced(points, pairs, tensions):
        return None
    rings = rounds(points, pairs)
    heights = [0] * len(points)
    for ring, (a, b, c) in zip(rings, folded(points, pairs, tensions, rings)):
        for joint in ring:
            heights[joint] = a * points[joint][0] + b * points[joint][1] + c
    return tuple(heights)


def slopes(points, pairs, tensions):
    """The list of the slopes, vectors, of the rounds for balanced tensions, or None for others."""
    if not is_balanced(points, pairs, tensions):
        return None
    return [(a, b) for a, b, _ in folded(points, pairs, tensions, rounds(points, pairs))]


def is_balanced(points, pairs, tensions):
    """Whether integers are balanced tensions: proper ones, if all pairs are bars."""
    bars = tuple([(i, j, None, None) for i, j in pairs])
    return is_proper((points, bars, ()), tensions)


def folded(points, pairs, tensions, rings):
    """For each round the tuple (a, b, c) such that the heights there are a x + b y + c, for balanced tensions.

    As the tensions balance, all ways from round to round across pairs lead to the same.
    """
    left = lefts(rings)
    pulls = tensions_of_steps(pairs, tensions)
    start = outer_of(points, rings)
    found = {start: (0, 0, 0)}
    waiting = [start]
    while waiting:
        at = waiting.pop()
        for i, j in ring_steps(rings[at]):
            other = left[(j, i)]
            if other not in found:
                found[other] = across(points, found[at], i, j, pulls[(i, j)])
                waiting.append(other)
    return [found[at] for at in range(len(rings))]


def lefts(rings):
    """A dict from each step to the position of its round, which lies on its left."""
    return {step: at for at, ring in enumerate(rings) for step in ring_steps(ring)}


def tensions_of_steps(pairs, tensions):
    """A dict from each step, to and fro, to the tension of its pair."""
    found = {}
    for (i, j), tension in zip(pairs, tensions):
        found[(i, j)] = tension
        found[(j, i)] = tension
    return found


def across(points, plane, i, j, tension):
    """The tuple (a, b, c) of the round on the right of the step from i to j, if `plane` is that of its left."""
    a, b, c = plane
    x, y = points[i]
    v, w = turn_of(points, i, j)
    # Both planes have the same height at the joint i.
    return a - tension * v, b - tension * w, c + tension * (v * x + w * y)


def turn_of(points, i, j):
    """The turn of the vector from the place of i to that of j."""
    x, y = difference(points, i, j)
    return -y, x


def tensions_of(points, pairs, heights):
    """The tuple of the tensions, numbers, that belong to a surface, or None if the heights are none."""
    rings = rounds(points, pairs)
    around = outer_of(points, rings)
    if any([heights[joint] != NOUGHT for joint in rings[around]]):
        return None
    found = [slope_of(points, heights, ring) if at != around else LEVEL for at, ring in enumerate(rings)]
    if None in found:
        return None
    left = lefts(rings)
    return tuple([fold(points, i, j, found[left[(i, j)]], found[left[(j, i)]]) for i, j in pairs])


def slope_of(points, heights, ring):
    """The slope of a round that is not the outer one, so that not all is in one line; None if it has none."""
    o = ring[0]
    p = ring[1]
    q = [joint for joint in ring if side(points[o], points[p], points[joint]) != 0][0]
    rises = (minus(heights[p], heights[o]), minus(heights[q], heights[o]))
    (v, w), (x, y) = difference(points, o, p), difference(points, o, q)
    area = (v * y - w * x, 1)
    slope = (over(dotted((y, -w), rises), area), over(dotted((-x, v), rises), area))
    for joint in ring:
        if dotted(difference(points, o, joint), slope) != minus(heights[joint], heights[o]):
            return None
    return slope


def difference(points, i, j):
    """The vector from the place of i to that of j."""
    return points[j][0] - points[i][0], points[j][1] - points[i][1]


def fold(points, i, j, slope, other):
    """The tension of the pair of i and j between the slopes on the left and on the right of the step from i to j."""
    v, w = turn_of(points, i, j)
    change = (minus(slope[0], other[0]), minus(slope[1], other[1]))
    return over(dotted((v, w), change), (v * v + w * w, 1))
