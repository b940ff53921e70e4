"""Drawn plane nets, and what they are by the words of points 23 to 26, reckoned in another way than the program's."""

from fractions import Fraction
from itertools import combinations
from math import atan2, pi

from drawn_nets import all_pairs
from own_sums import value


def drawn_places(draw, n, size):
    """Different places with coordinates up to a size."""
    found = []
    while len(found) < n:
        place = (draw.randint(-size, size), draw.randint(-size, size))
        if place not in found:
            found.append(place)
    return tuple(found)


def common_points(p, q, v, w):
    """How many points two segments have in common: 0, 1 or 2 for more than one; and the one, if there is one."""
    d, e = (q[0] - p[0], q[1] - p[1]), (w[0] - v[0], w[1] - v[1])
    bottom = d[0] * e[1] - d[1] * e[0]
    f = (v[0] - p[0], v[1] - p[1])
    if bottom:
        s = Fraction(f[0] * e[1] - f[1] * e[0], bottom)
        t = Fraction(f[0] * d[1] - f[1] * d[0], bottom)
        if 0 <= s <= 1 and 0 <= t <= 1:
            return 1, (p[0] + s * d[0], p[1] + s * d[1])
        return 0, None
    if f[0] * d[1] != f[1] * d[0]:
        return 0, None
    low, high = max(min(p, q), min(v, w)), min(max(p, q), max(v, w))
    return (0, None) if low > high else (1, low) if low == high else (2, None)


def agree(points, some, others):
    """Whether two pairs have no point in common but a joint of both."""
    count, place = common_points(*(points[k] for k in some + others))
    both = [points[k] for k in some if k in others]
    return count == 0 or (count == 1 and place in both)


def own_plane(points, pairs):
    """Whether points and pairs are a plane net."""
    for k, place in enumerate(points):
        for i, j in pairs:
            if k not in (i, j) and common_points(points[i], points[j], place, place)[0]:
                return False
    if not all(agree(points, *two) for two in combinations(pairs, 2)):
        return False
    return are_together(len(points), pairs)


def are_together(n, pairs):
    """Whether pairs lead from each joint to each other one."""
    names = list(range(n))
    for i, j in pairs:
        names = [names[i] if name == names[j] else name for name in names]
    return len(set(names)) == 1


def full_plane(draw, points):
    """Pairs that cross none, as many as can be, in a drawn order."""
    found = []
    for pair in draw.sample(all_pairs(len(points)), len(all_pairs(len(points)))):
        alone = all(common_points(points[pair[0]], points[pair[1]], place, place)[0] == 0
                    for k, place in enumerate(points) if k not in pair)
        if alone and all(agree(points, pair, other) for other in found):
            found.append(pair)
    return found


def thinned(draw, n, pairs, share):
    """The pairs without a share of them, in a drawn order, such that they still hang together."""
    kept = draw.sample(pairs, len(pairs))
    for pair in list(kept):
        left = [other for other in kept if other != pair]
        if draw.random() < share and are_together(n, left):
            kept = left
    return kept


def drawn_plane(draw, most=8, sizes=(2, 4, 1000), shares=(0, 0, 0.2, 0.5, 1)):
    """A drawn plane net."""
    size = draw.choice(sizes)
    points = drawn_places(draw, draw.randint(2, most), size)
    return points, tuple(thinned(draw, len(points), full_plane(draw, points), draw.choice(shares)))


def around_one(draw, count, size=1000):
    """A plane net of a triangle and joints inside it, with all pairs that cross none."""
    points = ((-size, -size), (size, -size), (0, size))
    while len(points) < count:
        place = (draw.randint(-size, size), draw.randint(-size, size))
        inside = all(turned(p, q, place) > 0 for p, q in zip(points[:3], points[1:3] + points[:1]))
        if inside and place not in points:
            points += (place,)
    return points, tuple(full_plane(draw, points))


def turned(p, q, r):
    """Above 0 if the way from p to q and on to r turns against the clock."""
    return (q[0] - p[0]) * (r[1] - q[1]) - (q[1] - p[1]) * (r[0] - q[0])


def angle(points, i, j):
    """The direction from a joint to another one; doubles tell all directions within 1000 apart."""
    return atan2(points[j][1] - points[i][1], points[j][0] - points[i][0])


def own_next(points, pairs, i, j):
    """The step that follows the step from i to j."""
    near = [sum(pair) - j for pair in pairs if j in pair]
    back = angle(points, j, i)
    return j, min(near, key=lambda k: 7 if k == i else (back - angle(points, j, k)) % (2 * pi))


def own_rounds(points, pairs):
    """The rounds of a plane net."""
    steps = {step for i, j in pairs for step in ((i, j), (j, i))}
    found = []
    while steps:
        step = min(steps)
        ring = []
        while step in steps:
            steps.remove(step)
            ring.append(step[0])
            step = own_next(points, pairs, *step)
        found.append(min(tuple(ring[k:] + ring[:k]) for k in range(len(ring))))
    return sorted(found)


def own_area(points, ring):
    """The area on the left of a round, by trapeziums."""
    total = Fraction(0)
    for i, j in zip(ring, ring[1:] + ring[:1]):
        total -= (points[j][0] - points[i][0]) * Fraction(points[j][1] + points[i][1], 2)
    return total


def own_outer(points, pairs):
    """The position of the outer round, the only one that does not go round an area against the clock."""
    rings = own_rounds(points, pairs)
    found = [k for k, ring in enumerate(rings) if own_area(points, ring) <= 0]
    assert len(found) == 1
    return found[0]


def own_slope(points, heights, ring):
    """The slope of a round whose joints are not all in one line, or None if it has none."""
    for p, q, r in combinations(ring, 3):
        area = turned(points[p], points[q], points[r])
        if area:
            break
    rows = [[points[k][c] - points[p][c] for c in (0, 1)] + [heights[k] - heights[p]] for k in (q, r)]
    a = Fraction(rows[0][2] * rows[1][1] - rows[1][2] * rows[0][1]) / area
    b = Fraction(rows[0][0] * rows[1][2] - rows[1][0] * rows[0][2]) / area
    for k in ring:
        x, y = (points[k][c] - points[p][c] for c in (0, 1))
        if heights[p] + a * x + b * y != heights[k]:
            return None
    return a, b


def own_slopes(points, pairs, heights):
    """The slopes of the rounds, or None if the heights are no surface."""
    heights = [value(height) for height in heights]
    rings, at = own_rounds(points, pairs), own_outer(points, pairs)
    if any(heights[k] for k in rings[at]):
        return None
    found = [(0, 0) if k == at else own_slope(points, heights, ring) for k, ring in enumerate(rings)]
    return None if None in found else found


def belong_together(points, pairs, tensions, heights):
    """Whether tensions and a surface belong together by the words of point 26."""
    found = own_slopes(points, pairs, heights)
    if found is None:
        return False
    rings = own_rounds(points, pairs)
    left = {step: found[k] for k, ring in enumerate(rings) for step in zip(ring, ring[1:] + ring[:1])}
    for (i, j), tension in zip(pairs, tensions, strict=True):
        x, y = (points[j][c] - points[i][c] for c in (0, 1))
        change = tuple(a - b for a, b in zip(left[i, j], left[j, i]))
        if change != (-y * value(tension), x * value(tension)):
            return False
    return True
